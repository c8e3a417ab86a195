/-
  The program's page (pages.sealed): what a page of this number and content is to be: the content and its sum; nothing that was there is written.
  The program's bits as bytes (pages.packed): a text of at most 2016 bits as the 252 bytes of a page, 0 behind the end; nothing that was there is written.
  What the levels of a sequence say, without the program: a list of numbers parted by a bit at each level, highest bit first; where a place or a span of a level lies in the next one; what is left of a span when all bits were asked. No condition but that the numbers are below 2^B.
-/
import Derived.Test.YtphjbbbnbmafnabGreatDoorPSum
import Derived.Laws.CopyOwn
import Derived.Shelf.SlicesQ.Load
import Derived.Test.YtphjbbbnbmafnabGreatDoorMade
namespace Go.Proofs.YtphjbbbnbmafnabGreatDoor.G
open Go.RowKit

theorem store_row (w : World) (g : Nat) (cur : Array Value) (vs : List Value) (t : TypeId) (hg : w.heap[g]? = some (.cells cur t (0, 0))) (hl : vs.length = cur.size) (h1 : ∀ v ∈ vs, v.oneCell' = true) :
    Sem.run Tryz.prog (storeCells ⟨g, 0, none⟩ vs) w = .ok () (w.setRow g vs.toArray) := by
  have h := run_storeCells_at Tryz.prog g 0 t vs 0 cur w hg (by omega) h1
  have e : cur.toList.drop (0 + 0 + vs.length) = [] := List.drop_eq_nil_of_le (by simp; omega)
  rw [e] at h
  simpa using h
theorem Tryz.infoBody : (Tryz.prog.info? 78).map (·.size) = some 252 := by kernel_rfl
theorem Tryz.infoPage : (Tryz.prog.info? 75).map (·.size) = some 256 := by kernel_rfl
theorem load_row (w : World) (g : Nat) (cs : Array Value) (t : TypeId) (fr : Nat × Nat) (k : Nat) (hk : cs.size = k) (h : w.heap[g]? = some (.cells cs t fr)) :
    Sem.run Tryz.prog (loadCellsFrom ⟨g, 0, none⟩ 0 k #[]) w = .ok cs w := by
  have := run_loadCells_list (P := Tryz.prog) (w := w) ⟨g, 0, none⟩ cs.toList (fun j v hv => by
    rw [addr_add, Nat.zero_add, cell_of_row w g j cs t fr h]
    simpa using hv)
  rw [Array.length_toList, hk] at this
  simpa [loadCells] using this
set_option maxHeartbeats 4000000 in
set_option maxRecDepth 100000 in
theorem sealed_any (p : Nat) (l : List Nat) (hp : p ≤ 1000) (hl : l.length = 252) (hb : ∀ x ∈ l, x < 256) (w : World) :
    Calls Tryz.prog 29 #[.int .i64 (p : Int), .agg (valsB l).toArray] w fun e w' => e = .returned (.agg (valsB (l ++ Crc.be4 (Crc.sumOf p l))).toArray) ∧ Below w.heap.size w w' := by
  have hz := vals_len l
  obtain ⟨W, hW⟩ : ∃ W, W = ((w.alloc (.cells (valsB l).toArray 78)).alloc (.cells Tryz.zeroCells75 75)).alloc (.cells Tryz.zeroCells75 75) := ⟨_, rfl⟩
  have hS : W.heap.size = w.heap.size + 3 := by rw [hW]; simp
  have h0 : W.heap[w.heap.size]? = some (.cells (valsB l).toArray 78 (0, 0)) := by
    rw [hW, old_alloc (by simp; omega), old_alloc (by simp)]; exact heap_alloc_new _ _
  have h1 : W.heap[w.heap.size + 1]? = some (.cells Tryz.zeroCells75 75 (0, 0)) := by
    rw [hW, old_alloc (by simp)]; exact heap_alloc2_new _ _ _
  have h2 : W.heap[w.heap.size + 2]? = some (.cells Tryz.zeroCells75 75 (0, 0)) := by
    rw [hW]
    have h := heap_alloc_new ((w.alloc (.cells (valsB l).toArray 78)).alloc (.cells Tryz.zeroCells75 75)) (.cells Tryz.zeroCells75 75)
    simpa using h
  have HBW : Hid (Below w.heap.size w W) := (by rw [hW]; exact ((below2 _ _ _).alloc (by simp; omega) _) : Below w.heap.size w W)
  have HW : Hid _ := hW
  clear hW
  go_enter Tryz.func29, Tryz.ntmps29
  go_wp2_with fail
  rw [← HW.out]
  refine wp_load_row 78 _ rfl w.heap.size rfl _ _ _ _ h0 Tryz.underlying78 rfl (by rw [Tryz.infoBody]; simp [hz, hl]) ?_
  go_wp2_with fail
  refine (psum_any p l hp hl hb W).mono ?_
  rintro e w1 ⟨rfl, hB1⟩
  have hsl := Crc.sum_lt p l
  have HL : Hid _ := hb
  generalize hsum : Crc.sumOf p l = S at hsl
  have HSum : Hid _ := hsum
  clear hsum hb
  have H1 : Hid _ := hB1
  clear hB1
  go_wp2_with fail
  refine (hf_any S hsl w1).mono ?_
  rintro e w2 ⟨rfl, hB2⟩
  obtain ⟨b0, b1, b2, b3, hbe⟩ : ∃ b0 b1 b2 b3 : Nat, Crc.be4 S = [b0, b1, b2, b3] := ⟨_, _, _, _, rfl⟩
  have hv4 : (valsB (Crc.be4 S)).toArray = #[.int .u8 (b0 : Int), .int .u8 (b1 : Int), .int .u8 (b2 : Int), .int .u8 (b3 : Int)] := by rw [hbe]; rfl
  rw [hv4]
  have hBW2 : Below W.heap.size W w2 := chain H1.out hB2
  have HV4 : Hid _ := hv4
  clear hv4 hbe
  have g0 : w2.heap[w.heap.size]? = some (.cells (valsB l).toArray 78 (0, 0)) := by rw [hBW2.block _ (by omega)]; exact h0
  have g1 : w2.heap[w.heap.size + 1]? = some (.cells Tryz.zeroCells75 75 (0, 0)) := by rw [hBW2.block _ (by omega)]; exact h1
  have g2 : w2.heap[w.heap.size + 2]? = some (.cells Tryz.zeroCells75 75 (0, 0)) := by rw [hBW2.block _ (by omega)]; exact h2
  have gs := hBW2.size
  have G0 : Hid _ := g0
  have G1 : Hid _ := g1
  have G2 : Hid _ := g2
  have HB2 : Hid _ := hBW2
  clear hBW2 hB2 h0 h1 h2 g0 g1 g2
  go_wp2_with fail
  obtain ⟨W3, hW3⟩ : ∃ W3, W3 = w2.alloc (.cells #[.int .u8 (b0 : Int), .int .u8 (b1 : Int), .int .u8 (b2 : Int), .int .u8 (b3 : Int)] 139) := ⟨_, rfl⟩
  have k0 : W3.heap[w.heap.size]? = some (.cells (valsB l).toArray 78 (0, 0)) := by rw [hW3, old_alloc (by omega)]; exact G0.out
  have k1 : W3.heap[w.heap.size + 1]? = some (.cells Tryz.zeroCells75 75 (0, 0)) := by rw [hW3, old_alloc (by omega)]; exact G1.out
  have k2 : W3.heap[w.heap.size + 2]? = some (.cells Tryz.zeroCells75 75 (0, 0)) := by rw [hW3, old_alloc (by omega)]; exact G2.out
  have k4 : W3.heap[w2.heap.size]? = some (.cells #[.int .u8 (b0 : Int), .int .u8 (b1 : Int), .int .u8 (b2 : Int), .int .u8 (b3 : Int)] 139 (0, 0)) := by rw [hW3]; exact heap_alloc_new _ _
  have ks : W3.heap.size = w2.heap.size + 1 := by rw [hW3]; simp
  have HB3 : Hid (Below W.heap.size W W3) := (by rw [hW3]; exact HB2.out.alloc HB2.out.size _ : Below W.heap.size W W3)
  rw [← hW3]
  clear hW3
  have hcopy := run_copy_row Tryz.prog W3.drew 70 70 3 5 (w.heap.size + 1 + 1) 0 256 256 ⟨w.heap.size, 0, none⟩ 252 252 _ _ (valsB l) Tryz.underlying70 (by kernel_rfl) k2 (by rw [hz, hl]; rfl) (fun j v hv => by
      rw [addr_add, cell_of_row W3.drew w.heap.size (0 + j) (valsB l).toArray 78 (0, 0) k0]
      simpa using hv) (by rw [hz, hl, Tryz.zeroCells75_size]; decide) (vals_one l)
  have K0 : Hid _ := k0
  have K1 : Hid _ := k1
  have K2 : Hid _ := k2
  have K4 : Hid _ := k4
  clear k0 k1 k2 k4 G0 G1 G2
  go_region
  obtain ⟨W4, hW4⟩ : ∃ W4, W4 = W3.drew.setRow (w.heap.size + 1 + 1) (valsB l ++ List.drop 252 Tryz.zeroCells75.toList).toArray := ⟨_, rfl⟩
  have m1 : W4.heap[w.heap.size + 1]? = some (.cells Tryz.zeroCells75 75 (0, 0)) := by rw [hW4, setRow_other _ _ _ _ (by omega)]; exact K1.out
  have m2 : W4.heap[w.heap.size + 1 + 1]? = some (.cells (valsB l ++ List.drop 252 Tryz.zeroCells75.toList).toArray 75 (0, 0)) := by rw [hW4]; exact setRow_heap _ _ _ _ _ _ K2.out
  have m4 : W4.heap[w2.heap.size]? = some (.cells #[.int .u8 (b0 : Int), .int .u8 (b1 : Int), .int .u8 (b2 : Int), .int .u8 (b3 : Int)] 139 (0, 0)) := by rw [hW4, setRow_other _ _ _ _ (by omega)]; exact K4.out
  have HB4 : Hid (Below w.heap.size w W4) := (by
    rw [hW4]
    exact below_setRow (HBW.out.trans (HB3.out.mono (by omega))).drew (by omega) _ : Below w.heap.size w W4)
  rw [← hW4]
  clear hW4 hcopy
  generalize hrest : List.drop 252 Tryz.zeroCells75.toList = rest at m2
  have hrl : rest.length = 4 := by rw [← hrest]; simp [Tryz.zeroCells75_size]
  clear hrest
  have hcopy2 := run_copy_row Tryz.prog W4.drew 70 70 3 5 (w.heap.size + 1 + 1) 252 4 4 ⟨w2.heap.size, 0, none⟩ 4 4 _ _ [.int .u8 (b0 : Int), .int .u8 (b1 : Int), .int .u8 (b2 : Int), .int .u8 (b3 : Int)] Tryz.underlying70 (by kernel_rfl) m2 rfl (fun j v hv => by
      rw [addr_add, cell_of_row W4.drew w2.heap.size (0 + j) _ 139 (0, 0) m4]
      simpa using hv) (by simp [hz, hl, hrl]) (four_one _ _ _ _)
  have hcur : (List.take 252 (valsB l ++ rest) ++ [Value.int .u8 (b0 : Int), .int .u8 (b1 : Int), .int .u8 (b2 : Int), .int .u8 (b3 : Int)] ++ List.drop (252 + 4) (valsB l ++ rest)).toArray = (valsB (l ++ Crc.be4 S)).toArray := by
    have e1 : List.take 252 (valsB l ++ rest) = valsB l := by rw [List.take_append_of_le_length (by omega), List.take_of_length_le (by omega)]
    have e2 : List.drop (252 + 4) (valsB l ++ rest) = [] := List.drop_eq_nil_of_le (by simp [hz, hl, hrl])
    have e3 : [Value.int .u8 (b0 : Int), .int .u8 (b1 : Int), .int .u8 (b2 : Int), .int .u8 (b3 : Int)] = valsB (Crc.be4 S) := by
      have := congrArg Array.toList HV4.out
      simpa using this.symm
    rw [e1, e2, e3, valsB_append, List.append_nil]
  have hcopy3 : (Builtin.copy_ #[70, 70] 3 #[.slice (some ⟨w.heap.size + 1 + 1, 252, none⟩) 4 4, .slice (some ⟨w2.heap.size, 0, none⟩) 4 4]).run Tryz.prog W4.drew = .ok (goInt 4) (W4.drew.setRow (w.heap.size + 1 + 1) (valsB (l ++ Crc.be4 S)).toArray) := by
    rw [← hcur]
    exact hcopy2
  have M1 : Hid _ := m1
  have M2 : Hid _ := m2
  clear hcopy2 hcur m1 m2 m4
  go_wp2_with fail
  go_region
  have hfin : (valsB (l ++ Crc.be4 S)).toArray.size = 256 := by simp [valsB, hl, Crc.be4]
  obtain ⟨W5, hW5⟩ : ∃ W5, W5 = W4.drew.setRow (w.heap.size + 1 + 1) (valsB (l ++ Crc.be4 S)).toArray := ⟨_, rfl⟩
  have n1 : W5.heap[w.heap.size + 1]? = some (.cells Tryz.zeroCells75 75 (0, 0)) := by rw [hW5, setRow_other _ _ _ _ (by omega)]; exact M1.out
  have n2 : W5.heap[w.heap.size + 1 + 1]? = some (.cells (valsB (l ++ Crc.be4 S)).toArray 75 (0, 0)) := by rw [hW5]; exact setRow_heap _ _ _ _ _ _ M2.out
  have HB5 : Hid (Below w.heap.size w W5) := (by
    rw [hW5]
    exact below_setRow HB4.out.drew (by omega) _ : Below w.heap.size w W5)
  rw [← hW5]
  have N1 : Hid _ := n1
  have N2 : Hid _ := n2
  clear hW5 n1 n2 hcopy3
  go_wp2_with fail
  refine wp_load_row 75 _ rfl (w.heap.size + 1 + 1) rfl _ _ _ _ N2.out Tryz.underlying75 rfl (by rw [Tryz.infoPage, hfin]) ?_
  go_wp2_with fail
  rw [store_row W5 (w.heap.size + 1) _ (valsB (l ++ Crc.be4 S)) 75 N1.out (by rw [Tryz.zeroCells75_size, ← hfin]; simp) (vals_one _)]
  go_wp2
  refine bodyPost_ret (results_cell_row rfl _ _ (w.heap.size + 1) 75 _ (0, 0) _ rfl (setRow_heap _ _ _ _ _ _ N1.out) Tryz.underlying75 rfl (by rw [Tryz.infoPage, hfin])) rfl ?_
  exact ⟨by rw [HSum.out], below_setRow HB5.out (by omega) _⟩
end Go.Proofs.YtphjbbbnbmafnabGreatDoor.G

namespace Go.Proofs.YtphjbbbnbmafnabGreatDoor.G
open Go.RowKit

theorem or8 : ∀ (j : Fin 8) (b0 b1 b2 b3 b4 b5 b6 b7 : Bool), numOf [b0, b1, b2, b3, b4, b5, b6, b7] ||| (128 / 2 ^ j.val) = numOf ([b0, b1, b2, b3, b4, b5, b6, b7].set j.val true) := by decide +kernel
theorem eight {α : Type} (l : List α) (h : l.length = 8) : ∃ a b c d e f g k, l = [a, b, c, d, e, f, g, k] := by
  match l, h with
  | [a, b, c, d, e, f, g, k], _ => exact ⟨a, b, c, d, e, f, g, k, rfl⟩
theorem or_set (l : List Bool) (h : l.length = 8) (j : Nat) (hj : j < 8) : numOf l ||| (128 / 2 ^ j) = numOf (l.set j true) := by
  obtain ⟨a, b, c, d, e, f, g, k, rfl⟩ := eight l h
  exact or8 ⟨j, hj⟩ a b c d e f g k
/-- the bytes of a page of which the first i bits have gone in -/
def prt (l : List Bool) (i : Nat) : List Nat := pageB (l.take i) 0 252
theorem prt_len (l : List Bool) (i : Nat) : (prt l i).length = 252 := pageB_len _ _ _
theorem take_getD (l : List Bool) (i k : Nat) : (l.take i).getD k false = (decide (k < i) && l.getD k false) := by
  simp only [List.getD_eq_getElem?_getD, List.getElem?_take]
  by_cases h : k < i <;> simp [h]
theorem prt_at (l : List Bool) (i k : Nat) (hk : k < 252) : (prt l i)[k]? = some (numOf (sub (l.take i) (8 * k) 8)) := by
  unfold prt pageB
  rw [List.getElem?_map, List.getElem?_range hk]
  simp
theorem sub_take_zero (l : List Bool) (i a : Nat) (h : l.getD i false = false) : sub (l.take (i + 1)) a 8 = sub (l.take i) a 8 := by
  unfold sub
  refine List.map_congr_left (fun k _ => ?_)
  rw [take_getD, take_getD]
  by_cases e : a + k = i
  · rw [e, h]; simp
  · by_cases e2 : a + k < i
    · simp [e2, show a + k < i + 1 by omega]
    · simp [e2, show ¬ a + k < i + 1 by omega]
theorem sub_take_one (l : List Bool) (i a : Nat) (h : l.getD i false = true) (h1 : a ≤ i) (h2 : i < a + 8) : sub (l.take (i + 1)) a 8 = (sub (l.take i) a 8).set (i - a) true := by
  apply List.ext_getElem
  · simp [sub]
  · intro k hk1 hk2
    rw [List.getElem_set]
    simp only [sub, List.getElem_map, List.getElem_range]
    rw [take_getD, take_getD]
    by_cases e : i - a = k
    · rw [if_pos e, show a + k = i by omega, h]; simp
    · rw [if_neg e]
      by_cases e2 : a + k < i
      · simp [e2, show a + k < i + 1 by omega]
      · simp [e2, show ¬ a + k < i + 1 by omega]
theorem sub_take_off (l : List Bool) (i a : Nat) (h : i < a ∨ a + 8 ≤ i) : sub (l.take (i + 1)) a 8 = sub (l.take i) a 8 := by
  unfold sub
  refine List.map_congr_left (fun k hk => ?_)
  have hk' : k < 8 := by simpa using hk
  rw [take_getD, take_getD]
  by_cases e2 : a + k < i
  · simp [e2, show a + k < i + 1 by omega]
  · have : ¬ a + k < i + 1 := by omega
    simp [e2, this]
theorem prt_zero (l : List Bool) (i : Nat) (h : l.getD i false = false) : prt l (i + 1) = prt l i := by
  unfold prt pageB
  exact List.map_congr_left (fun k _ => by rw [sub_take_zero l i _ h])
theorem prt_one (l : List Bool) (i x : Nat) (h : l.getD i false = true) (hx : (prt l i)[i / 8]? = some x) (hi : i < 2016) : prt l (i + 1) = (prt l i).set (i / 8) (x ||| 128 / 2 ^ (i % 8)) := by
  rw [prt_at l i (i / 8) (by omega)] at hx
  simp at hx
  subst hx
  apply List.ext_getElem?
  intro k
  by_cases hk : k < 252
  · rw [prt_at l (i + 1) k hk, List.getElem?_set]
    by_cases e : i / 8 = k
    · subst e
      rw [if_pos rfl, if_pos (by rw [prt_len]; omega), sub_take_one l i _ h (by omega) (by omega), or_set _ (sub_len _ _ _) _ (by omega)]
      congr 3; omega
    · rw [if_neg e, prt_at l i k hk, sub_take_off l i _ (by omega)]
  · rw [List.getElem?_eq_none (by rw [prt_len]; omega), List.getElem?_eq_none (by simp [prt_len]; omega)]
theorem prt_start (l : List Bool) : prt l 0 = List.replicate 252 0 := by
  unfold prt pageB
  rw [List.take_zero]
  decide +kernel
theorem prt_all (l : List Bool) : prt l l.length = pageB l 0 252 := by unfold prt; rw [List.take_length]
theorem Tryz.zeroBody : Tryz.zeroCells78 = (valsB (List.replicate 252 0)).toArray := by kernel_rfl
theorem vals_set (l : List Nat) (i x : Nat) : (valsB (l.set i x)).toArray = (valsB l).toArray.setIfInBounds i (.int .u8 (x : Int)) := by
  simp [valsB, List.map_set]
theorem u8_or_nat (a b : Nat) (ha : a < 256) (hb : b < 256) : bits .or .u8 (a : Int) (b : Int) = ((a ||| b : Nat) : Int) := by
  have hx : a ||| b < 2 ^ 8 := Nat.or_lt_two_pow (by omega) (by omega)
  show IntKind.u8.wrap ((BitVec.ofInt 8 (a : Int) ||| BitVec.ofInt 8 (b : Int)).toNat : Int) = _
  rw [BitVec.toNat_or]
  have e1 : (BitVec.ofInt 8 (a : Int)).toNat = a := by simp; omega
  have e2 : (BitVec.ofInt 8 (b : Int)).toNat = b := by simp; omega
  rw [e1, e2, IntKind.wrap_u8]
  omega
set_option maxHeartbeats 4000000 in
set_option maxRecDepth 100000 in
theorem packed_any (l : List Bool) (hl : l.length ≤ 2016) (w : World) :
    Calls Tryz.prog 30 #[.string (txt l)] w fun e w' => e = .returned (.agg (valsB (pageB l 0 252)).toArray) ∧ Below w.heap.size w w' := by
  have hts := txt_size l
  go_enter Tryz.func30, Tryz.ntmps30
  go_wp2
  go_loopw [7] (fun si wr => ∃ i : Nat, i ≤ l.length ∧ si = .int .i64 (i : Int) ∧ Hid (wr.heap[w.heap.size]? = some (.cells Tryz.zeroCells78 78 (0, 0)) ∧ wr.heap[w.heap.size + 1]? = some (.cells (valsB (prt l i)).toArray 78 (0, 0)) ∧ Below w.heap.size w wr)) (fun si _ => l.length - (intOf si).toNat)
  case atStart => exact ⟨0, Nat.zero_le _, rfl, by
    refine ⟨heap_alloc2_old _ _ _, ?_, below2 _ _ _⟩
    rw [prt_start, ← Tryz.zeroBody]
    exact heap_alloc2_new _ _ _⟩
  case round =>
    obtain ⟨i, hi, rfl, HI⟩ := hrel
    by_cases hlt : i < l.length
    · have hiz : i < (txt l).size := by omega
      have htx := txt_at l i hiz
      have hizI : (i : Int) < ((txt l).size : Int) := by omega
      cases hbit : l.getD i false
      · rw [hbit] at htx
        have htx2 : ((txt l)[i].toNat : Int) = 48 := by rw [htx]; rfl
        have HN : Hid (prt l (i + 1) = prt l i) := prt_zero l i hbit
        clear htx hbit
        go_wp2
        go_roundw
        case rel => exact ⟨i + 1, by omega, by go_num, by rw [HN.out]; exact HI.out⟩
        case measure => simp [intOf]; omega
      · rw [hbit] at htx
        have htx2 : ((txt l)[i].toNat : Int) = 49 := by rw [htx]; rfl
        obtain ⟨x, hx⟩ : ∃ x, (prt l i)[i / 8]? = some x := ⟨_, prt_at l i (i / 8) (by omega)⟩
        have hxb : x < 256 := pageB_lt _ _ _ _ (List.mem_of_getElem? hx)
        have HN : Hid _ := prt_one l i x hbit hx (by omega)
        have hcell : wr.drew.cell? ⟨w.heap.size + 1, i / 8, none⟩ = some (.int .u8 (x : Int)) := by
          rw [cell_of_row wr.drew _ _ _ _ _ HI.out.2.1]
          simp [valsB, hx]
        have hfro : wr.drew.frozen? ⟨w.heap.size + 1, i / 8, none⟩ = false := frozen_of_row wr.drew _ _ _ _ HI.out.2.1
        clear htx hbit hx
        have h8 : (i : Int) / 8 < 252 := by omega
        have hp7 : 128 / 2 ^ (i % 8) < 256 := by
          have := Nat.div_le_self 128 (2 ^ (i % 8)); omega
        have HO : Hid (bits BinOp.or IntKind.u8 (x : Int) (128 / 2 ^ (i % 8)) = ((x ||| 128 / 2 ^ (i % 8) : Nat) : Int)) := (by
          rw [← u8_or_nat x _ hxb hp7]
          congr 1 : _ = _)
        go_wp2
        go_region
        rw [HO.out]
        have HI2 : Hid _ := heap_setCell_same wr.drew (w.heap.size + 1) (i / 8) _ _ (.int .u8 ((x ||| 128 / 2 ^ (i % 8) : Nat) : Int)) HI.out.2.1
        have HI3 : Hid _ := heap_setCell_other wr.drew ⟨w.heap.size + 1, i / 8, none⟩ w.heap.size (.int .u8 ((x ||| 128 / 2 ^ (i % 8) : Nat) : Int)) (by simp)
        have HB3 : Hid _ := (HI.out.2.2.drew).setCell (p := ⟨w.heap.size + 1, i / 8, none⟩) (by simp) (.int .u8 ((x ||| 128 / 2 ^ (i % 8) : Nat) : Int))
        clear hcell hfro
        go_wp2
        go_roundw
        case rel =>
          have h3 := HI2.out
          rw [← vals_set, ← HN.out] at h3
          exact ⟨i + 1, by omega, by go_num, HI3.out.trans HI.out.1, h3, HB3.out⟩
        case measure => simp [intOf]; omega
    · obtain rfl : i = l.length := by omega
      have h2 := HI.out.2.1
      rw [prt_all] at h2
      have HR : Hid _ := h2
      have hsz : (valsB (pageB l 0 252)).toArray.size = 252 := by simp [valsB, pageB_len]
      clear h2
      go_wp2_with fail
      refine wp_load_row 78 _ rfl (w.heap.size + 1) rfl _ _ _ _ HR.out Tryz.underlying78 rfl (by rw [Tryz.infoBody, hsz]) ?_
      go_wp2_with fail
      rw [store_row wr w.heap.size _ (valsB (pageB l 0 252)) 78 HI.out.1 (by rw [Tryz.zeroCells78_size]; simp [valsB, pageB_len]) (vals_one _)]
      go_wp2
      refine bodyPost_ret (results_cell_row rfl _ _ w.heap.size 78 _ (0, 0) _ rfl (setRow_heap _ _ _ _ _ _ HI.out.1) Tryz.underlying78 rfl (by rw [Tryz.infoBody, hsz])) rfl ?_
      exact ⟨rfl, below_setRow HI.out.2.2 (Nat.le_refl _) _⟩
end Go.Proofs.YtphjbbbnbmafnabGreatDoor.G

namespace Go.Proofs.YtphjbbbnbmafnabGreatDoor

/-- those whose bit is 0 ahead of those whose bit is 1 -/
def part (b : Nat) (l : List Nat) : List Nat := l.filter (fun x => x.testBit b == false) ++ l.filter (fun x => x.testBit b == true)
/-- the list as level d has it -/
def lev (B : Nat) (l : List Nat) : Nat → List Nat
  | 0 => l
  | d + 1 => part (B - 1 - d) (lev B l d)
/-- a level's vector of bits -/
def bitf (l : List Nat) (b i : Nat) : Bool := (l.getD i 0).testBit b
/-- where the next level has what is at the place i -/
def down (f : Nat → Bool) (n : Nat) (one : Bool) (i : Nat) : Nat := if one then n - cnt f n + cnt f i else i - cnt f i
/-- where the list has the number c -/
def eqf (l : List Nat) (c i : Nat) : Bool := l[i]? == some c
/-- the numbers from a up to b are s -/
def Seg (L : List Nat) (a b : Nat) (s : List Nat) : Prop := ∃ l1 l3, L = l1 ++ s ++ l3 ∧ a = l1.length ∧ b = l1.length + s.length

theorem filter_split (b : Nat) (l : List Nat) : (l.filter (fun x => x.testBit b == false)).length + (l.filter (fun x => x.testBit b == true)).length = l.length := by
  induction l with
  | nil => rfl
  | cons x r ih =>
    rw [List.filter_cons, List.filter_cons]
    cases x.testBit b <;> simp at ih ⊢ <;> omega
theorem part_length (b : Nat) (l : List Nat) : (part b l).length = l.length := by
  unfold part; rw [List.length_append]; exact filter_split b l
theorem lev_length (B : Nat) (l : List Nat) (d : Nat) : (lev B l d).length = l.length := by
  induction d with
  | zero => rfl
  | succ d ih => unfold lev; rw [part_length, ih]
theorem part_mem {b : Nat} {l : List Nat} {x : Nat} (h : x ∈ part b l) : x ∈ l := by
  unfold part at h
  rw [List.mem_append, List.mem_filter, List.mem_filter] at h
  rcases h with h | h <;> exact h.1
theorem lev_mem {B : Nat} {l : List Nat} {d x : Nat} (h : x ∈ lev B l d) : x ∈ l := by
  induction d with
  | zero => exact h
  | succ d ih => exact ih (part_mem h)
theorem bitf_out (l : List Nat) (b i : Nat) (h : l.length ≤ i) : bitf l b i = false := by
  unfold bitf; rw [List.getD_eq_getElem?_getD, List.getElem?_eq_none h]; simp

/-- counting by places, and counting in a list -/
theorem cnt_list (g : Nat → Bool) (p : Nat → Bool) (l : List Nat) (h : ∀ i (hi : i < l.length), g i = p l[i]) : ∀ i, i ≤ l.length → cnt g i = ((l.take i).filter p).length := by
  intro i
  induction i with
  | zero => intro _; rfl
  | succ i ih =>
    intro hi
    rw [cnt_succ, ih (by omega), h i (by omega), List.take_add_one, List.getElem?_eq_getElem (by omega)]
    rw [List.filter_append, List.length_append]
    congr 1
    simp only [Option.toList_some, List.filter_cons, List.filter_nil]
    cases p l[i] <;> simp
theorem cnt_bitf (l : List Nat) (b i : Nat) (h : i ≤ l.length) : cnt (bitf l b) i = ((l.take i).filter (fun x => x.testBit b == true)).length :=
  cnt_list _ (fun x => x.testBit b == true) l (fun i hi => by unfold bitf; rw [List.getD_eq_getElem?_getD, List.getElem?_eq_getElem hi]; simp) i h
theorem cnt_eqf (l : List Nat) (c i : Nat) (h : i ≤ l.length) : cnt (eqf l c) i = ((l.take i).filter (fun x => x == c)).length :=
  cnt_list _ (fun x => x == c) l (fun i hi => by unfold eqf; rw [List.getElem?_eq_getElem hi]; simp) i h

/-- THE NEXT LEVEL: a span's zeros (its ones) lie there side by side, in their order. -/
theorem seg_down {L : List Nat} {a b : Nat} {s : List Nat} (bt : Nat) (h : Seg L a b s) (one : Bool) :
    Seg (part bt L) (down (bitf L bt) L.length one a) (down (bitf L bt) L.length one b) (s.filter (fun x => x.testBit bt == one)) := by
  obtain ⟨l1, l3, rfl, rfl, rfl⟩ := h
  have c1 : cnt (bitf (l1 ++ s ++ l3) bt) l1.length = (l1.filter (fun x => x.testBit bt == true)).length := by
    rw [cnt_bitf _ _ _ (by simp only [List.length_append]; omega), List.append_assoc, List.take_left]
  have c2 : cnt (bitf (l1 ++ s ++ l3) bt) (l1.length + s.length) = (l1.filter (fun x => x.testBit bt == true)).length + (s.filter (fun x => x.testBit bt == true)).length := by
    rw [cnt_bitf _ _ _ (by simp only [List.length_append]; omega), ← List.length_append, List.take_left, List.filter_append, List.length_append]
  have c3 : cnt (bitf (l1 ++ s ++ l3) bt) (l1 ++ s ++ l3).length = (l1.filter (fun x => x.testBit bt == true)).length + (s.filter (fun x => x.testBit bt == true)).length + (l3.filter (fun x => x.testBit bt == true)).length := by
    rw [cnt_bitf _ _ _ (Nat.le_refl _), List.take_length, List.filter_append, List.filter_append, List.length_append, List.length_append]
  have c4 : (l1 ++ s ++ l3).length = l1.length + s.length + l3.length := by simp only [List.length_append]
  have e1 := filter_split bt l1
  have e2 := filter_split bt s
  have e3 := filter_split bt l3
  cases one
  · refine ⟨l1.filter (fun x => x.testBit bt == false), l3.filter (fun x => x.testBit bt == false) ++ (l1 ++ s ++ l3).filter (fun x => x.testBit bt == true), ?_, ?_, ?_⟩
    · unfold part; simp only [List.filter_append, List.append_assoc]
    · unfold down; rw [if_neg (by simp), c1]; omega
    · unfold down; rw [if_neg (by simp), c2]; omega
  · refine ⟨(l1 ++ s ++ l3).filter (fun x => x.testBit bt == false) ++ l1.filter (fun x => x.testBit bt == true), l3.filter (fun x => x.testBit bt == true), ?_, ?_, ?_⟩
    · unfold part; simp only [List.filter_append, List.append_assoc]
    · unfold down; rw [if_pos rfl, c3, c1]; simp only [List.filter_append, List.length_append]; omega
    · unfold down; rw [if_pos rfl, c3, c2]; simp only [List.filter_append, List.length_append]; omega

/-- a place, led down d levels by the bits of c -/
def led (B : Nat) (l : List Nat) (c : Nat) : Nat → Nat → Nat
  | 0, t => t
  | d + 1, t => down (bitf (lev B l d) (B - 1 - d)) l.length (c.testBit (B - 1 - d)) (led B l c d t)

theorem pre_step (x h : Nat) : x / 2 ^ h = 2 * (x / 2 ^ (h + 1)) + (x.testBit h).toNat := by
  have e : x / 2 ^ (h + 1) = x / 2 ^ h / 2 := by rw [Nat.pow_succ, Nat.div_div_eq_div_mul]
  rw [e, Nat.testBit_eq_decide_div_mod_eq]
  have := Nat.div_add_mod (x / 2 ^ h) 2
  have h2 : x / 2 ^ h % 2 < 2 := Nat.mod_lt _ (by decide)
  rcases (show x / 2 ^ h % 2 = 0 ∨ x / 2 ^ h % 2 = 1 by omega) with h3 | h3
  · rw [h3] at this ⊢; simp; omega
  · rw [h3] at this ⊢; simp; omega
theorem like_step (x P h : Nat) (o : Bool) : ((x / 2 ^ (h + 1) == P) && (x.testBit h == o)) = (x / 2 ^ h == 2 * P + o.toNat) := by
  rw [pre_step x h]
  generalize x / 2 ^ (h + 1) = y
  rw [Bool.eq_iff_iff, Bool.and_eq_true, beq_iff_eq, beq_iff_eq, beq_iff_eq]
  cases x.testBit h <;> cases o <;> simp only [Bool.toNat_false, Bool.toNat_true, reduceCtorEq, and_true, and_false, false_iff] <;> omega
theorem filter_step (s : List Nat) (P h : Nat) (o : Bool) : (s.filter (fun x => x / 2 ^ (h + 1) == P)).filter (fun x => x.testBit h == o) = s.filter (fun x => x / 2 ^ h == 2 * P + o.toNat) := by
  rw [List.filter_filter]
  congr 1
  funext x
  rw [← like_step, Bool.and_comm]
theorem less_step (x P h : Nat) (o : Bool) : (decide (x / 2 ^ h < 2 * P + o.toNat)).toNat = (decide (x / 2 ^ (h + 1) < P)).toNat + (o && ((x / 2 ^ (h + 1) == P) && (x.testBit h == false))).toNat := by
  rw [pre_step x h]
  generalize x / 2 ^ (h + 1) = y
  rcases Nat.lt_trichotomy y P with e | e | e
  · have h1 : 2 * y + (x.testBit h).toNat < 2 * P + o.toNat := by have := Bool.toNat_le (x.testBit h); omega
    have h2 : (y == P) = false := by simp; omega
    simp [h1, h2, e]
  · subst e
    cases x.testBit h <;> cases o <;> simp
  · have h1 : ¬ 2 * y + (x.testBit h).toNat < 2 * P + o.toNat := by have := Bool.toNat_le o; omega
    have h2 : (y == P) = false := by simp; omega
    have h3 : ¬ y < P := by omega
    simp [h1, h2, h3]
theorem below_step (s : List Nat) (P h : Nat) (o : Bool) : (s.filter (fun x => decide (x / 2 ^ h < 2 * P + o.toNat))).length = (s.filter (fun x => decide (x / 2 ^ (h + 1) < P))).length + (if o then ((s.filter (fun x => x / 2 ^ (h + 1) == P)).filter (fun x => x.testBit h == false)).length else 0) := by
  induction s with
  | nil => cases o <;> rfl
  | cons x r ih =>
    have e := less_step x P h o
    rw [List.filter_filter] at ih ⊢
    simp only [List.filter_cons]
    cases o
    · simp only [Bool.false_eq_true, if_false, Nat.add_zero, Bool.false_and, Bool.toNat_false] at ih e ⊢
      generalize decide (x / 2 ^ h < 2 * P) = u at e ⊢
      generalize decide (x / 2 ^ (h + 1) < P) = v at e ⊢
      cases u <;> cases v <;> simp only [Bool.toNat_false, Bool.toNat_true, Bool.false_eq_true, if_true, if_false, List.length_cons] at e ⊢ <;> omega
    · simp only [if_true, Bool.true_and, Bool.toNat_true] at ih e ⊢
      rw [Bool.and_comm] at e
      generalize decide (x / 2 ^ h < 2 * P + 1) = u at e ⊢
      generalize decide (x / 2 ^ (h + 1) < P) = v at e ⊢
      generalize ((x.testBit h == false) && (x / 2 ^ (h + 1) == P)) = z at e ⊢
      cases u <;> cases v <;> cases z <;> simp only [Bool.toNat_false, Bool.toNat_true, Bool.false_eq_true, if_true, if_false, List.length_cons] at e ⊢ <;> omega

/-- A SPAN LED DOWN: what is left of it has the highest bits of c. -/
theorem seg_led {B : Nat} {l : List Nat} {a b : Nat} {s : List Nat} (c : Nat) (h : Seg l a b s) (hc : c < 2 ^ B) (hl : ∀ x ∈ l, x < 2 ^ B) : ∀ d, d ≤ B → Seg (lev B l d) (led B l c d a) (led B l c d b) (s.filter (fun x => x / 2 ^ (B - d) == c / 2 ^ (B - d))) := by
  intro d
  induction d with
  | zero =>
    intro _
    have e : s.filter (fun x => x / 2 ^ (B - 0) == c / 2 ^ (B - 0)) = s := by
      rw [List.filter_eq_self]
      intro x hx
      obtain ⟨l1, l3, rfl, _, _⟩ := h
      have := hl x (by simp [hx])
      rw [Nat.sub_zero, Nat.div_eq_of_lt this, Nat.div_eq_of_lt hc]; rfl
    rw [e]; exact h
  | succ d ih =>
    intro hd
    have h1 := seg_down (B - 1 - d) (ih (by omega)) (c.testBit (B - 1 - d))
    rw [show B - d = (B - 1 - d) + 1 by omega, filter_step, lev_length] at h1
    rw [show B - (d + 1) = B - 1 - d by omega, pre_step c (B - 1 - d)]
    exact h1
theorem filter_last (s : List Nat) (c : Nat) : s.filter (fun x => x / 2 ^ 0 == c / 2 ^ 0) = s.filter (fun x => x == c) := by simp
theorem seg_len {L : List Nat} {a b : Nat} {s : List Nat} (h : Seg L a b s) : b = a + s.length ∧ b ≤ L.length := by
  obtain ⟨l1, l3, rfl, rfl, rfl⟩ := h
  simp
theorem seg_of (l : List Nat) (a b : Nat) (h1 : a ≤ b) (h2 : b ≤ l.length) : Seg l a b ((l.take b).drop a) := by
  refine ⟨l.take a, l.drop b, ?_, ?_, ?_⟩
  · have e : l.take a ++ (l.take b).drop a = l.take b := by
      have := List.take_append_drop a (l.take b)
      rwa [List.take_take, Nat.min_eq_left h1] at this
    rw [e, List.take_append_drop]
  · simp; omega
  · simp; omega
/-- how often the number c is from a up to b -/
theorem led_len {B : Nat} {l : List Nat} {a b : Nat} (c : Nat) (hc : c < 2 ^ B) (hl : ∀ x ∈ l, x < 2 ^ B) (h1 : a ≤ b) (h2 : b ≤ l.length) :
    led B l c B b = led B l c B a + (((l.take b).drop a).filter (fun x => x == c)).length ∧ led B l c B b ≤ l.length := by
  have h := seg_led c (seg_of l a b h1 h2) hc hl B (Nat.le_refl _)
  rw [Nat.sub_self, filter_last] at h
  have := seg_len h
  rw [lev_length] at this
  exact this
theorem led_le {B : Nat} {l : List Nat} {a b : Nat} (c : Nat) (hc : c < 2 ^ B) (hl : ∀ x ∈ l, x < 2 ^ B) (h1 : a ≤ b) (h2 : b ≤ l.length) (d : Nat) (hd : d ≤ B) :
    led B l c d a ≤ led B l c d b ∧ led B l c d b ≤ l.length := by
  have := seg_len (seg_led c (seg_of l a b h1 h2) hc hl d hd)
  rw [lev_length] at this
  omega
theorem led_rank {B : Nat} {l : List Nat} (c : Nat) (hc : c < 2 ^ B) (hl : ∀ x ∈ l, x < 2 ^ B) (i : Nat) (h2 : i ≤ l.length) :
    led B l c B i = led B l c B 0 + cnt (eqf l c) i := by
  rw [(led_len c hc hl (Nat.zero_le i) h2).1, List.drop_zero, cnt_eqf l c i h2]

/-- a number's own place, led down by its own bits -/
theorem led_at {B : Nat} {l : List Nat} {t c : Nat} (ht : l[t]? = some c) (hl : ∀ x ∈ l, x < 2 ^ B) (d : Nat) (hd : d ≤ B) : (lev B l d)[led B l c d t]? = some c ∧ led B l c d t < l.length := by
  have hlt : t < l.length := by
    rcases Nat.lt_or_ge t l.length with h | h
    · exact h
    · rw [List.getElem?_eq_none h] at ht; cases ht
  have hm : c ∈ l := List.mem_of_getElem? ht
  have e : (l.take (t + 1)).drop t = [c] := by
    rw [List.take_add_one, ht]
    simp [Nat.min_eq_left (Nat.le_of_lt hlt)]
  have h := seg_led c (seg_of l t (t + 1) (by omega) (by omega)) (hl c hm) hl d hd
  rw [e] at h
  have e2 : [c].filter (fun x => x / 2 ^ (B - d) == c / 2 ^ (B - d)) = [c] := by simp
  rw [e2] at h
  obtain ⟨l1, l3, h1, h3, h4⟩ := h
  have h5 := congrArg List.length h1
  rw [lev_length] at h5
  rw [h1, h3]
  refine ⟨by simp, ?_⟩
  simp at h5; omega
theorem bitf_at {l : List Nat} {b t c : Nat} (h : l[t]? = some c) : bitf l b t = c.testBit b := by
  unfold bitf; rw [List.getD_eq_getElem?_getD, h]; rfl

/-- THE WAY BACK UP: the one place of a level that is led to where one came from. -/
theorem up_uniq {f : Nat → Bool} {one : Bool} {s t : Nat} (hs : f s = one) (ht : f t = one) (h : cnt (side f one) s = cnt (side f one) t) : s = t :=
  cnt_uniq (side f one) (by simp [side, hs]) (by simp [side, ht]) h
theorem down_side {f : Nat → Bool} {n : Nat} (one : Bool) (i : Nat) : down f n one i = (if one then n - cnt f n else 0) + cnt (side f one) i := by
  unfold down
  cases one
  · have := cnt_side f i
    simp; omega
  · simp [side_true]
end Go.Proofs.YtphjbbbnbmafnabGreatDoor
