/-
  The program's bits as bytes (pages.packed): a text of at most 2016 bits as the 252 bytes of a page, 0 behind the end; nothing that was there is written.
-/
import Derived.Test.YtphjbbbnbmafnaaSeal
namespace Go.Proofs.Ytphjbbbnbmafnaa.G
open Go.RowKit

theorem or8 : ∀ (j : Fin 8) (b0 b1 b2 b3 b4 b5 b6 b7 : Bool), numOf [b0, b1, b2, b3, b4, b5, b6, b7] ||| (128 / 2 ^ j.val) = numOf ([b0, b1, b2, b3, b4, b5, b6, b7].set j.val true) := by decide +kernel
theorem eight {α : Type} (l : List α) (h : l.length = 8) : ∃ a b c d e f g k, l = [a, b, c, d, e, f, g, k] := by
  match l, h with
  | [a, b, c, d, e, f, g, k], _ => exact ⟨a, b, c, d, e, f, g, k, rfl⟩
theorem or_set (l : List Bool) (h : l.length = 8) (j : Nat) (hj : j < 8) : numOf l ||| (128 / 2 ^ j) = numOf (l.set j true) := by
  obtain ⟨a, b, c, d, e, f, g, k, rfl⟩ := eight l h
  exact or8 ⟨j, hj⟩ a b c d e f g k
/-- the bytes of a page of which the first i bits have gone in -/
def prt (l : List Bool) (i : Nat) : List Nat := pageB (l.take i) 0 252
theorem prt_len (l : List Bool) (i : Nat) : (prt l i).length = 252 := pageB_len _ _ _
theorem take_getD (l : List Bool) (i k : Nat) : (l.take i).getD k false = (decide (k < i) && l.getD k false) := by
  simp only [List.getD_eq_getElem?_getD, List.getElem?_take]
  by_cases h : k < i <;> simp [h]
theorem prt_at (l : List Bool) (i k : Nat) (hk : k < 252) : (prt l i)[k]? = some (numOf (sub (l.take i) (8 * k) 8)) := by
  unfold prt pageB
  rw [List.getElem?_map, List.getElem?_range hk]
  simp
theorem sub_take_zero (l : List Bool) (i a : Nat) (h : l.getD i false = false) : sub (l.take (i + 1)) a 8 = sub (l.take i) a 8 := by
  unfold sub
  refine List.map_congr_left (fun k _ => ?_)
  rw [take_getD, take_getD]
  by_cases e : a + k = i
  · rw [e, h]; simp
  · by_cases e2 : a + k < i
    · simp [e2, show a + k < i + 1 by omega]
    · simp [e2, show ¬ a + k < i + 1 by omega]
theorem sub_take_one (l : List Bool) (i a : Nat) (h : l.getD i false = true) (h1 : a ≤ i) (h2 : i < a + 8) : sub (l.take (i + 1)) a 8 = (sub (l.take i) a 8).set (i - a) true := by
  apply List.ext_getElem
  · simp [sub]
  · intro k hk1 hk2
    rw [List.getElem_set]
    simp only [sub, List.getElem_map, List.getElem_range]
    rw [take_getD, take_getD]
    by_cases e : i - a = k
    · rw [if_pos e, show a + k = i by omega, h]; simp
    · rw [if_neg e]
      by_cases e2 : a + k < i
      · simp [e2, show a + k < i + 1 by omega]
      · simp [e2, show ¬ a + k < i + 1 by omega]
theorem sub_take_off (l : List Bool) (i a : Nat) (h : i < a ∨ a + 8 ≤ i) : sub (l.take (i + 1)) a 8 = sub (l.take i) a 8 := by
  unfold sub
  refine List.map_congr_left (fun k hk => ?_)
  have hk' : k < 8 := by simpa using hk
  rw [take_getD, take_getD]
  by_cases e2 : a + k < i
  · simp [e2, show a + k < i + 1 by omega]
  · have : ¬ a + k < i + 1 := by omega
    simp [e2, this]
theorem prt_zero (l : List Bool) (i : Nat) (h : l.getD i false = false) : prt l (i + 1) = prt l i := by
  unfold prt pageB
  exact List.map_congr_left (fun k _ => by rw [sub_take_zero l i _ h])
theorem prt_one (l : List Bool) (i x : Nat) (h : l.getD i false = true) (hx : (prt l i)[i / 8]? = some x) (hi : i < 2016) : prt l (i + 1) = (prt l i).set (i / 8) (x ||| 128 / 2 ^ (i % 8)) := by
  rw [prt_at l i (i / 8) (by omega)] at hx
  simp at hx
  subst hx
  apply List.ext_getElem?
  intro k
  by_cases hk : k < 252
  · rw [prt_at l (i + 1) k hk, List.getElem?_set]
    by_cases e : i / 8 = k
    · subst e
      rw [if_pos rfl, if_pos (by rw [prt_len]; omega), sub_take_one l i _ h (by omega) (by omega), or_set _ (sub_len _ _ _) _ (by omega)]
      congr 3; omega
    · rw [if_neg e, prt_at l i k hk, sub_take_off l i _ (by omega)]
  · rw [List.getElem?_eq_none (by rw [prt_len]; omega), List.getElem?_eq_none (by simp [prt_len]; omega)]
theorem prt_start (l : List Bool) : prt l 0 = List.replicate 252 0 := by
  unfold prt pageB
  rw [List.take_zero]
  decide +kernel
theorem prt_all (l : List Bool) : prt l l.length = pageB l 0 252 := by unfold prt; rw [List.take_length]
theorem Try.zeroBody : Try.zeroCells143 = (valsB (List.replicate 252 0)).toArray := by kernel_rfl
theorem vals_set (l : List Nat) (i x : Nat) : (valsB (l.set i x)).toArray = (valsB l).toArray.setIfInBounds i (.int .u8 (x : Int)) := by
  simp [valsB, List.map_set]
theorem u8_or_nat (a b : Nat) (ha : a < 256) (hb : b < 256) : bits .or .u8 (a : Int) (b : Int) = ((a ||| b : Nat) : Int) := by
  have hx : a ||| b < 2 ^ 8 := Nat.or_lt_two_pow (by omega) (by omega)
  show IntKind.u8.wrap ((BitVec.ofInt 8 (a : Int) ||| BitVec.ofInt 8 (b : Int)).toNat : Int) = _
  rw [BitVec.toNat_or]
  have e1 : (BitVec.ofInt 8 (a : Int)).toNat = a := by simp; omega
  have e2 : (BitVec.ofInt 8 (b : Int)).toNat = b := by simp; omega
  rw [e1, e2, IntKind.wrap_u8]
  omega
set_option maxHeartbeats 4000000 in
set_option maxRecDepth 100000 in
theorem packed_any (l : List Bool) (hl : l.length ≤ 2016) (w : World) :
    Calls Try.prog 92 #[.string (txt l)] w fun e w' => e = .returned (.agg (valsB (pageB l 0 252)).toArray) ∧ Below w.heap.size w w' := by
  have hts := txt_size l
  go_enter Try.func92, Try.ntmps92
  go_wp2
  go_loopw [7] (fun si wr => ∃ i : Nat, i ≤ l.length ∧ si = .int .i64 (i : Int) ∧ Hid (wr.heap[w.heap.size]? = some (.cells Try.zeroCells143 143 (0, 0)) ∧ wr.heap[w.heap.size + 1]? = some (.cells (valsB (prt l i)).toArray 143 (0, 0)) ∧ Below w.heap.size w wr)) (fun si _ => l.length - (intOf si).toNat)
  case atStart => exact ⟨0, Nat.zero_le _, rfl, by
    refine ⟨heap_alloc2_old _ _ _, ?_, below2 _ _ _⟩
    rw [prt_start, ← Try.zeroBody]
    exact heap_alloc2_new _ _ _⟩
  case round =>
    obtain ⟨i, hi, rfl, HI⟩ := hrel
    by_cases hlt : i < l.length
    · have hiz : i < (txt l).size := by omega
      have htx := txt_at l i hiz
      have hizI : (i : Int) < ((txt l).size : Int) := by omega
      cases hbit : l.getD i false
      · rw [hbit] at htx
        have htx2 : ((txt l)[i].toNat : Int) = 48 := by rw [htx]; rfl
        have HN : Hid (prt l (i + 1) = prt l i) := prt_zero l i hbit
        clear htx hbit
        go_wp2
        go_roundw
        case rel => exact ⟨i + 1, by omega, by go_num, by rw [HN.out]; exact HI.out⟩
        case measure => simp [intOf]; omega
      · rw [hbit] at htx
        have htx2 : ((txt l)[i].toNat : Int) = 49 := by rw [htx]; rfl
        obtain ⟨x, hx⟩ : ∃ x, (prt l i)[i / 8]? = some x := ⟨_, prt_at l i (i / 8) (by omega)⟩
        have hxb : x < 256 := pageB_lt _ _ _ _ (List.mem_of_getElem? hx)
        have HN : Hid _ := prt_one l i x hbit hx (by omega)
        have hcell : wr.drew.cell? ⟨w.heap.size + 1, i / 8, none⟩ = some (.int .u8 (x : Int)) := by
          rw [cell_of_row wr.drew _ _ _ _ _ HI.out.2.1]
          simp [valsB, hx]
        have hfro : wr.drew.frozen? ⟨w.heap.size + 1, i / 8, none⟩ = false := frozen_of_row wr.drew _ _ _ _ HI.out.2.1
        clear htx hbit hx
        have h8 : (i : Int) / 8 < 252 := by omega
        have hp7 : 128 / 2 ^ (i % 8) < 256 := by
          have := Nat.div_le_self 128 (2 ^ (i % 8)); omega
        have HO : Hid (bits BinOp.or IntKind.u8 (x : Int) (128 / 2 ^ (i % 8)) = ((x ||| 128 / 2 ^ (i % 8) : Nat) : Int)) := (by
          rw [← u8_or_nat x _ hxb hp7]
          congr 1 : _ = _)
        go_wp2
        go_region
        rw [HO.out]
        have HI2 : Hid _ := heap_setCell_same wr.drew (w.heap.size + 1) (i / 8) _ _ (.int .u8 ((x ||| 128 / 2 ^ (i % 8) : Nat) : Int)) HI.out.2.1
        have HI3 : Hid _ := heap_setCell_other wr.drew ⟨w.heap.size + 1, i / 8, none⟩ w.heap.size (.int .u8 ((x ||| 128 / 2 ^ (i % 8) : Nat) : Int)) (by simp)
        have HB3 : Hid _ := (HI.out.2.2.drew).setCell (p := ⟨w.heap.size + 1, i / 8, none⟩) (by simp) (.int .u8 ((x ||| 128 / 2 ^ (i % 8) : Nat) : Int))
        clear hcell hfro
        go_wp2
        go_roundw
        case rel =>
          have h3 := HI2.out
          rw [← vals_set, ← HN.out] at h3
          exact ⟨i + 1, by omega, by go_num, HI3.out.trans HI.out.1, h3, HB3.out⟩
        case measure => simp [intOf]; omega
    · obtain rfl : i = l.length := by omega
      have h2 := HI.out.2.1
      rw [prt_all] at h2
      have HR : Hid _ := h2
      have hsz : (valsB (pageB l 0 252)).toArray.size = 252 := by simp [valsB, pageB_len]
      clear h2
      go_wp2_with fail
      refine wp_load_row 143 _ rfl (w.heap.size + 1) rfl _ _ _ _ HR.out Try.underlying143 rfl (by rw [Try.infoBody, hsz]) ?_
      go_wp2_with fail
      rw [store_row wr w.heap.size _ (valsB (pageB l 0 252)) 143 HI.out.1 (by rw [Try.zeroCells143_size]; simp [valsB, pageB_len]) (vals_one _)]
      go_wp2
      refine bodyPost_ret (results_cell_row rfl _ _ w.heap.size 143 _ (0, 0) _ rfl (setRow_heap _ _ _ _ _ _ HI.out.1) Try.underlying143 rfl (by rw [Try.infoBody, hsz])) rfl ?_
      exact ⟨rfl, below_setRow HI.out.2.2 (Nat.le_refl _) _⟩
end Go.Proofs.Ytphjbbbnbmafnaa.G
