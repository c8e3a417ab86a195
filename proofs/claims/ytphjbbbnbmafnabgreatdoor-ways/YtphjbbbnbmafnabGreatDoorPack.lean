/-
  The program's page (pages.sealed): what a page of this number and content is to be: the content and its sum; nothing that was there is written.
  The program's bits as bytes (pages.packed): a text of at most 2016 bits as the 252 bytes of a page, 0 behind the end; nothing that was there is written.
-/
import Derived.Test.YtphjbbbnbmafnabGreatDoorPSum
import Derived.Laws.CopyOwn
import Derived.Shelf.SlicesQ.Load
namespace Go.Proofs.YtphjbbbnbmafnabGreatDoor.G
open Go.RowKit

theorem store_row (w : World) (g : Nat) (cur : Array Value) (vs : List Value) (t : TypeId) (hg : w.heap[g]? = some (.cells cur t (0, 0))) (hl : vs.length = cur.size) (h1 : ∀ v ∈ vs, v.oneCell' = true) :
    Sem.run Tryz.prog (storeCells ⟨g, 0, none⟩ vs) w = .ok () (w.setRow g vs.toArray) := by
  have h := run_storeCells_at Tryz.prog g 0 t vs 0 cur w hg (by omega) h1
  have e : cur.toList.drop (0 + 0 + vs.length) = [] := List.drop_eq_nil_of_le (by simp; omega)
  rw [e] at h
  simpa using h
theorem Tryz.infoBody : (Tryz.prog.info? 78).map (·.size) = some 252 := by kernel_rfl
theorem Tryz.infoPage : (Tryz.prog.info? 75).map (·.size) = some 256 := by kernel_rfl
theorem load_row (w : World) (g : Nat) (cs : Array Value) (t : TypeId) (fr : Nat × Nat) (k : Nat) (hk : cs.size = k) (h : w.heap[g]? = some (.cells cs t fr)) :
    Sem.run Tryz.prog (loadCellsFrom ⟨g, 0, none⟩ 0 k #[]) w = .ok cs w := by
  have := run_loadCells_list (P := Tryz.prog) (w := w) ⟨g, 0, none⟩ cs.toList (fun j v hv => by
    rw [addr_add, Nat.zero_add, cell_of_row w g j cs t fr h]
    simpa using hv)
  rw [Array.length_toList, hk] at this
  simpa [loadCells] using this
set_option maxHeartbeats 4000000 in
set_option maxRecDepth 100000 in
theorem sealed_any (p : Nat) (l : List Nat) (hp : p ≤ 1000) (hl : l.length = 252) (hb : ∀ x ∈ l, x < 256) (w : World) :
    Calls Tryz.prog 29 #[.int .i64 (p : Int), .agg (valsB l).toArray] w fun e w' => e = .returned (.agg (valsB (l ++ Crc.be4 (Crc.sumOf p l))).toArray) ∧ Below w.heap.size w w' := by
  have hz := vals_len l
  obtain ⟨W, hW⟩ : ∃ W, W = ((w.alloc (.cells (valsB l).toArray 78)).alloc (.cells Tryz.zeroCells75 75)).alloc (.cells Tryz.zeroCells75 75) := ⟨_, rfl⟩
  have hS : W.heap.size = w.heap.size + 3 := by rw [hW]; simp
  have h0 : W.heap[w.heap.size]? = some (.cells (valsB l).toArray 78 (0, 0)) := by
    rw [hW, old_alloc (by simp; omega), old_alloc (by simp)]; exact heap_alloc_new _ _
  have h1 : W.heap[w.heap.size + 1]? = some (.cells Tryz.zeroCells75 75 (0, 0)) := by
    rw [hW, old_alloc (by simp)]; exact heap_alloc2_new _ _ _
  have h2 : W.heap[w.heap.size + 2]? = some (.cells Tryz.zeroCells75 75 (0, 0)) := by
    rw [hW]
    have h := heap_alloc_new ((w.alloc (.cells (valsB l).toArray 78)).alloc (.cells Tryz.zeroCells75 75)) (.cells Tryz.zeroCells75 75)
    simpa using h
  have HBW : Hid (Below w.heap.size w W) := (by rw [hW]; exact ((below2 _ _ _).alloc (by simp; omega) _) : Below w.heap.size w W)
  have HW : Hid _ := hW
  clear hW
  go_enter Tryz.func29, Tryz.ntmps29
  go_wp2_with fail
  rw [← HW.out]
  refine wp_load_row 78 _ rfl w.heap.size rfl _ _ _ _ h0 Tryz.underlying78 rfl (by rw [Tryz.infoBody]; simp [hz, hl]) ?_
  go_wp2_with fail
  refine (psum_any p l hp hl hb W).mono ?_
  rintro e w1 ⟨rfl, hB1⟩
  have hsl := Crc.sum_lt p l
  have HL : Hid _ := hb
  generalize hsum : Crc.sumOf p l = S at hsl
  have HSum : Hid _ := hsum
  clear hsum hb
  have H1 : Hid _ := hB1
  clear hB1
  go_wp2_with fail
  refine (hf_any S hsl w1).mono ?_
  rintro e w2 ⟨rfl, hB2⟩
  obtain ⟨b0, b1, b2, b3, hbe⟩ : ∃ b0 b1 b2 b3 : Nat, Crc.be4 S = [b0, b1, b2, b3] := ⟨_, _, _, _, rfl⟩
  have hv4 : (valsB (Crc.be4 S)).toArray = #[.int .u8 (b0 : Int), .int .u8 (b1 : Int), .int .u8 (b2 : Int), .int .u8 (b3 : Int)] := by rw [hbe]; rfl
  rw [hv4]
  have hBW2 : Below W.heap.size W w2 := chain H1.out hB2
  have HV4 : Hid _ := hv4
  clear hv4 hbe
  have g0 : w2.heap[w.heap.size]? = some (.cells (valsB l).toArray 78 (0, 0)) := by rw [hBW2.block _ (by omega)]; exact h0
  have g1 : w2.heap[w.heap.size + 1]? = some (.cells Tryz.zeroCells75 75 (0, 0)) := by rw [hBW2.block _ (by omega)]; exact h1
  have g2 : w2.heap[w.heap.size + 2]? = some (.cells Tryz.zeroCells75 75 (0, 0)) := by rw [hBW2.block _ (by omega)]; exact h2
  have gs := hBW2.size
  have G0 : Hid _ := g0
  have G1 : Hid _ := g1
  have G2 : Hid _ := g2
  have HB2 : Hid _ := hBW2
  clear hBW2 hB2 h0 h1 h2 g0 g1 g2
  go_wp2_with fail
  obtain ⟨W3, hW3⟩ : ∃ W3, W3 = w2.alloc (.cells #[.int .u8 (b0 : Int), .int .u8 (b1 : Int), .int .u8 (b2 : Int), .int .u8 (b3 : Int)] 139) := ⟨_, rfl⟩
  have k0 : W3.heap[w.heap.size]? = some (.cells (valsB l).toArray 78 (0, 0)) := by rw [hW3, old_alloc (by omega)]; exact G0.out
  have k1 : W3.heap[w.heap.size + 1]? = some (.cells Tryz.zeroCells75 75 (0, 0)) := by rw [hW3, old_alloc (by omega)]; exact G1.out
  have k2 : W3.heap[w.heap.size + 2]? = some (.cells Tryz.zeroCells75 75 (0, 0)) := by rw [hW3, old_alloc (by omega)]; exact G2.out
  have k4 : W3.heap[w2.heap.size]? = some (.cells #[.int .u8 (b0 : Int), .int .u8 (b1 : Int), .int .u8 (b2 : Int), .int .u8 (b3 : Int)] 139 (0, 0)) := by rw [hW3]; exact heap_alloc_new _ _
  have ks : W3.heap.size = w2.heap.size + 1 := by rw [hW3]; simp
  have HB3 : Hid (Below W.heap.size W W3) := (by rw [hW3]; exact HB2.out.alloc HB2.out.size _ : Below W.heap.size W W3)
  rw [← hW3]
  clear hW3
  have hcopy := run_copy_row Tryz.prog W3.drew 70 70 3 5 (w.heap.size + 1 + 1) 0 256 256 ⟨w.heap.size, 0, none⟩ 252 252 _ _ (valsB l) Tryz.underlying70 (by kernel_rfl) k2 (by rw [hz, hl]; rfl) (fun j v hv => by
      rw [addr_add, cell_of_row W3.drew w.heap.size (0 + j) (valsB l).toArray 78 (0, 0) k0]
      simpa using hv) (by rw [hz, hl, Tryz.zeroCells75_size]; decide) (vals_one l)
  have K0 : Hid _ := k0
  have K1 : Hid _ := k1
  have K2 : Hid _ := k2
  have K4 : Hid _ := k4
  clear k0 k1 k2 k4 G0 G1 G2
  go_region
  obtain ⟨W4, hW4⟩ : ∃ W4, W4 = W3.drew.setRow (w.heap.size + 1 + 1) (valsB l ++ List.drop 252 Tryz.zeroCells75.toList).toArray := ⟨_, rfl⟩
  have m1 : W4.heap[w.heap.size + 1]? = some (.cells Tryz.zeroCells75 75 (0, 0)) := by rw [hW4, setRow_other _ _ _ _ (by omega)]; exact K1.out
  have m2 : W4.heap[w.heap.size + 1 + 1]? = some (.cells (valsB l ++ List.drop 252 Tryz.zeroCells75.toList).toArray 75 (0, 0)) := by rw [hW4]; exact setRow_heap _ _ _ _ _ _ K2.out
  have m4 : W4.heap[w2.heap.size]? = some (.cells #[.int .u8 (b0 : Int), .int .u8 (b1 : Int), .int .u8 (b2 : Int), .int .u8 (b3 : Int)] 139 (0, 0)) := by rw [hW4, setRow_other _ _ _ _ (by omega)]; exact K4.out
  have HB4 : Hid (Below w.heap.size w W4) := (by
    rw [hW4]
    exact below_setRow (HBW.out.trans (HB3.out.mono (by omega))).drew (by omega) _ : Below w.heap.size w W4)
  rw [← hW4]
  clear hW4 hcopy
  generalize hrest : List.drop 252 Tryz.zeroCells75.toList = rest at m2
  have hrl : rest.length = 4 := by rw [← hrest]; simp [Tryz.zeroCells75_size]
  clear hrest
  have hcopy2 := run_copy_row Tryz.prog W4.drew 70 70 3 5 (w.heap.size + 1 + 1) 252 4 4 ⟨w2.heap.size, 0, none⟩ 4 4 _ _ [.int .u8 (b0 : Int), .int .u8 (b1 : Int), .int .u8 (b2 : Int), .int .u8 (b3 : Int)] Tryz.underlying70 (by kernel_rfl) m2 rfl (fun j v hv => by
      rw [addr_add, cell_of_row W4.drew w2.heap.size (0 + j) _ 139 (0, 0) m4]
      simpa using hv) (by simp [hz, hl, hrl]) (four_one _ _ _ _)
  have hcur : (List.take 252 (valsB l ++ rest) ++ [Value.int .u8 (b0 : Int), .int .u8 (b1 : Int), .int .u8 (b2 : Int), .int .u8 (b3 : Int)] ++ List.drop (252 + 4) (valsB l ++ rest)).toArray = (valsB (l ++ Crc.be4 S)).toArray := by
    have e1 : List.take 252 (valsB l ++ rest) = valsB l := by rw [List.take_append_of_le_length (by omega), List.take_of_length_le (by omega)]
    have e2 : List.drop (252 + 4) (valsB l ++ rest) = [] := List.drop_eq_nil_of_le (by simp [hz, hl, hrl])
    have e3 : [Value.int .u8 (b0 : Int), .int .u8 (b1 : Int), .int .u8 (b2 : Int), .int .u8 (b3 : Int)] = valsB (Crc.be4 S) := by
      have := congrArg Array.toList HV4.out
      simpa using this.symm
    rw [e1, e2, e3, valsB_append, List.append_nil]
  have hcopy3 : (Builtin.copy_ #[70, 70] 3 #[.slice (some ⟨w.heap.size + 1 + 1, 252, none⟩) 4 4, .slice (some ⟨w2.heap.size, 0, none⟩) 4 4]).run Tryz.prog W4.drew = .ok (goInt 4) (W4.drew.setRow (w.heap.size + 1 + 1) (valsB (l ++ Crc.be4 S)).toArray) := by
    rw [← hcur]
    exact hcopy2
  have M1 : Hid _ := m1
  have M2 : Hid _ := m2
  clear hcopy2 hcur m1 m2 m4
  go_wp2_with fail
  go_region
  have hfin : (valsB (l ++ Crc.be4 S)).toArray.size = 256 := by simp [valsB, hl, Crc.be4]
  obtain ⟨W5, hW5⟩ : ∃ W5, W5 = W4.drew.setRow (w.heap.size + 1 + 1) (valsB (l ++ Crc.be4 S)).toArray := ⟨_, rfl⟩
  have n1 : W5.heap[w.heap.size + 1]? = some (.cells Tryz.zeroCells75 75 (0, 0)) := by rw [hW5, setRow_other _ _ _ _ (by omega)]; exact M1.out
  have n2 : W5.heap[w.heap.size + 1 + 1]? = some (.cells (valsB (l ++ Crc.be4 S)).toArray 75 (0, 0)) := by rw [hW5]; exact setRow_heap _ _ _ _ _ _ M2.out
  have HB5 : Hid (Below w.heap.size w W5) := (by
    rw [hW5]
    exact below_setRow HB4.out.drew (by omega) _ : Below w.heap.size w W5)
  rw [← hW5]
  have N1 : Hid _ := n1
  have N2 : Hid _ := n2
  clear hW5 n1 n2 hcopy3
  go_wp2_with fail
  refine wp_load_row 75 _ rfl (w.heap.size + 1 + 1) rfl _ _ _ _ N2.out Tryz.underlying75 rfl (by rw [Tryz.infoPage, hfin]) ?_
  go_wp2_with fail
  rw [store_row W5 (w.heap.size + 1) _ (valsB (l ++ Crc.be4 S)) 75 N1.out (by rw [Tryz.zeroCells75_size, ← hfin]; simp) (vals_one _)]
  go_wp2
  refine bodyPost_ret (results_cell_row rfl _ _ (w.heap.size + 1) 75 _ (0, 0) _ rfl (setRow_heap _ _ _ _ _ _ N1.out) Tryz.underlying75 rfl (by rw [Tryz.infoPage, hfin])) rfl ?_
  exact ⟨by rw [HSum.out], below_setRow HB5.out (by omega) _⟩
end Go.Proofs.YtphjbbbnbmafnabGreatDoor.G

namespace Go.Proofs.YtphjbbbnbmafnabGreatDoor.G
open Go.RowKit

theorem or8 : ∀ (j : Fin 8) (b0 b1 b2 b3 b4 b5 b6 b7 : Bool), numOf [b0, b1, b2, b3, b4, b5, b6, b7] ||| (128 / 2 ^ j.val) = numOf ([b0, b1, b2, b3, b4, b5, b6, b7].set j.val true) := by decide +kernel
theorem eight {α : Type} (l : List α) (h : l.length = 8) : ∃ a b c d e f g k, l = [a, b, c, d, e, f, g, k] := by
  match l, h with
  | [a, b, c, d, e, f, g, k], _ => exact ⟨a, b, c, d, e, f, g, k, rfl⟩
theorem or_set (l : List Bool) (h : l.length = 8) (j : Nat) (hj : j < 8) : numOf l ||| (128 / 2 ^ j) = numOf (l.set j true) := by
  obtain ⟨a, b, c, d, e, f, g, k, rfl⟩ := eight l h
  exact or8 ⟨j, hj⟩ a b c d e f g k
/-- the bytes of a page of which the first i bits have gone in -/
def prt (l : List Bool) (i : Nat) : List Nat := pageB (l.take i) 0 252
theorem prt_len (l : List Bool) (i : Nat) : (prt l i).length = 252 := pageB_len _ _ _
theorem take_getD (l : List Bool) (i k : Nat) : (l.take i).getD k false = (decide (k < i) && l.getD k false) := by
  simp only [List.getD_eq_getElem?_getD, List.getElem?_take]
  by_cases h : k < i <;> simp [h]
theorem prt_at (l : List Bool) (i k : Nat) (hk : k < 252) : (prt l i)[k]? = some (numOf (sub (l.take i) (8 * k) 8)) := by
  unfold prt pageB
  rw [List.getElem?_map, List.getElem?_range hk]
  simp
theorem sub_take_zero (l : List Bool) (i a : Nat) (h : l.getD i false = false) : sub (l.take (i + 1)) a 8 = sub (l.take i) a 8 := by
  unfold sub
  refine List.map_congr_left (fun k _ => ?_)
  rw [take_getD, take_getD]
  by_cases e : a + k = i
  · rw [e, h]; simp
  · by_cases e2 : a + k < i
    · simp [e2, show a + k < i + 1 by omega]
    · simp [e2, show ¬ a + k < i + 1 by omega]
theorem sub_take_one (l : List Bool) (i a : Nat) (h : l.getD i false = true) (h1 : a ≤ i) (h2 : i < a + 8) : sub (l.take (i + 1)) a 8 = (sub (l.take i) a 8).set (i - a) true := by
  apply List.ext_getElem
  · simp [sub]
  · intro k hk1 hk2
    rw [List.getElem_set]
    simp only [sub, List.getElem_map, List.getElem_range]
    rw [take_getD, take_getD]
    by_cases e : i - a = k
    · rw [if_pos e, show a + k = i by omega, h]; simp
    · rw [if_neg e]
      by_cases e2 : a + k < i
      · simp [e2, show a + k < i + 1 by omega]
      · simp [e2, show ¬ a + k < i + 1 by omega]
theorem sub_take_off (l : List Bool) (i a : Nat) (h : i < a ∨ a + 8 ≤ i) : sub (l.take (i + 1)) a 8 = sub (l.take i) a 8 := by
  unfold sub
  refine List.map_congr_left (fun k hk => ?_)
  have hk' : k < 8 := by simpa using hk
  rw [take_getD, take_getD]
  by_cases e2 : a + k < i
  · simp [e2, show a + k < i + 1 by omega]
  · have : ¬ a + k < i + 1 := by omega
    simp [e2, this]
theorem prt_zero (l : List Bool) (i : Nat) (h : l.getD i false = false) : prt l (i + 1) = prt l i := by
  unfold prt pageB
  exact List.map_congr_left (fun k _ => by rw [sub_take_zero l i _ h])
theorem prt_one (l : List Bool) (i x : Nat) (h : l.getD i false = true) (hx : (prt l i)[i / 8]? = some x) (hi : i < 2016) : prt l (i + 1) = (prt l i).set (i / 8) (x ||| 128 / 2 ^ (i % 8)) := by
  rw [prt_at l i (i / 8) (by omega)] at hx
  simp at hx
  subst hx
  apply List.ext_getElem?
  intro k
  by_cases hk : k < 252
  · rw [prt_at l (i + 1) k hk, List.getElem?_set]
    by_cases e : i / 8 = k
    · subst e
      rw [if_pos rfl, if_pos (by rw [prt_len]; omega), sub_take_one l i _ h (by omega) (by omega), or_set _ (sub_len _ _ _) _ (by omega)]
      congr 3; omega
    · rw [if_neg e, prt_at l i k hk, sub_take_off l i _ (by omega)]
  · rw [List.getElem?_eq_none (by rw [prt_len]; omega), List.getElem?_eq_none (by simp [prt_len]; omega)]
theorem prt_start (l : List Bool) : prt l 0 = List.replicate 252 0 := by
  unfold prt pageB
  rw [List.take_zero]
  decide +kernel
theorem prt_all (l : List Bool) : prt l l.length = pageB l 0 252 := by unfold prt; rw [List.take_length]
theorem Tryz.zeroBody : Tryz.zeroCells78 = (valsB (List.replicate 252 0)).toArray := by kernel_rfl
theorem vals_set (l : List Nat) (i x : Nat) : (valsB (l.set i x)).toArray = (valsB l).toArray.setIfInBounds i (.int .u8 (x : Int)) := by
  simp [valsB, List.map_set]
theorem u8_or_nat (a b : Nat) (ha : a < 256) (hb : b < 256) : bits .or .u8 (a : Int) (b : Int) = ((a ||| b : Nat) : Int) := by
  have hx : a ||| b < 2 ^ 8 := Nat.or_lt_two_pow (by omega) (by omega)
  show IntKind.u8.wrap ((BitVec.ofInt 8 (a : Int) ||| BitVec.ofInt 8 (b : Int)).toNat : Int) = _
  rw [BitVec.toNat_or]
  have e1 : (BitVec.ofInt 8 (a : Int)).toNat = a := by simp; omega
  have e2 : (BitVec.ofInt 8 (b : Int)).toNat = b := by simp; omega
  rw [e1, e2, IntKind.wrap_u8]
  omega
set_option maxHeartbeats 4000000 in
set_option maxRecDepth 100000 in
theorem packed_any (l : List Bool) (hl : l.length ≤ 2016) (w : World) :
    Calls Tryz.prog 30 #[.string (txt l)] w fun e w' => e = .returned (.agg (valsB (pageB l 0 252)).toArray) ∧ Below w.heap.size w w' := by
  have hts := txt_size l
  go_enter Tryz.func30, Tryz.ntmps30
  go_wp2
  go_loopw [7] (fun si wr => ∃ i : Nat, i ≤ l.length ∧ si = .int .i64 (i : Int) ∧ Hid (wr.heap[w.heap.size]? = some (.cells Tryz.zeroCells78 78 (0, 0)) ∧ wr.heap[w.heap.size + 1]? = some (.cells (valsB (prt l i)).toArray 78 (0, 0)) ∧ Below w.heap.size w wr)) (fun si _ => l.length - (intOf si).toNat)
  case atStart => exact ⟨0, Nat.zero_le _, rfl, by
    refine ⟨heap_alloc2_old _ _ _, ?_, below2 _ _ _⟩
    rw [prt_start, ← Tryz.zeroBody]
    exact heap_alloc2_new _ _ _⟩
  case round =>
    obtain ⟨i, hi, rfl, HI⟩ := hrel
    by_cases hlt : i < l.length
    · have hiz : i < (txt l).size := by omega
      have htx := txt_at l i hiz
      have hizI : (i : Int) < ((txt l).size : Int) := by omega
      cases hbit : l.getD i false
      · rw [hbit] at htx
        have htx2 : ((txt l)[i].toNat : Int) = 48 := by rw [htx]; rfl
        have HN : Hid (prt l (i + 1) = prt l i) := prt_zero l i hbit
        clear htx hbit
        go_wp2
        go_roundw
        case rel => exact ⟨i + 1, by omega, by go_num, by rw [HN.out]; exact HI.out⟩
        case measure => simp [intOf]; omega
      · rw [hbit] at htx
        have htx2 : ((txt l)[i].toNat : Int) = 49 := by rw [htx]; rfl
        obtain ⟨x, hx⟩ : ∃ x, (prt l i)[i / 8]? = some x := ⟨_, prt_at l i (i / 8) (by omega)⟩
        have hxb : x < 256 := pageB_lt _ _ _ _ (List.mem_of_getElem? hx)
        have HN : Hid _ := prt_one l i x hbit hx (by omega)
        have hcell : wr.drew.cell? ⟨w.heap.size + 1, i / 8, none⟩ = some (.int .u8 (x : Int)) := by
          rw [cell_of_row wr.drew _ _ _ _ _ HI.out.2.1]
          simp [valsB, hx]
        have hfro : wr.drew.frozen? ⟨w.heap.size + 1, i / 8, none⟩ = false := frozen_of_row wr.drew _ _ _ _ HI.out.2.1
        clear htx hbit hx
        have h8 : (i : Int) / 8 < 252 := by omega
        have hp7 : 128 / 2 ^ (i % 8) < 256 := by
          have := Nat.div_le_self 128 (2 ^ (i % 8)); omega
        have HO : Hid (bits BinOp.or IntKind.u8 (x : Int) (128 / 2 ^ (i % 8)) = ((x ||| 128 / 2 ^ (i % 8) : Nat) : Int)) := (by
          rw [← u8_or_nat x _ hxb hp7]
          congr 1 : _ = _)
        go_wp2
        go_region
        rw [HO.out]
        have HI2 : Hid _ := heap_setCell_same wr.drew (w.heap.size + 1) (i / 8) _ _ (.int .u8 ((x ||| 128 / 2 ^ (i % 8) : Nat) : Int)) HI.out.2.1
        have HI3 : Hid _ := heap_setCell_other wr.drew ⟨w.heap.size + 1, i / 8, none⟩ w.heap.size (.int .u8 ((x ||| 128 / 2 ^ (i % 8) : Nat) : Int)) (by simp)
        have HB3 : Hid _ := (HI.out.2.2.drew).setCell (p := ⟨w.heap.size + 1, i / 8, none⟩) (by simp) (.int .u8 ((x ||| 128 / 2 ^ (i % 8) : Nat) : Int))
        clear hcell hfro
        go_wp2
        go_roundw
        case rel =>
          have h3 := HI2.out
          rw [← vals_set, ← HN.out] at h3
          exact ⟨i + 1, by omega, by go_num, HI3.out.trans HI.out.1, h3, HB3.out⟩
        case measure => simp [intOf]; omega
    · obtain rfl : i = l.length := by omega
      have h2 := HI.out.2.1
      rw [prt_all] at h2
      have HR : Hid _ := h2
      have hsz : (valsB (pageB l 0 252)).toArray.size = 252 := by simp [valsB, pageB_len]
      clear h2
      go_wp2_with fail
      refine wp_load_row 78 _ rfl (w.heap.size + 1) rfl _ _ _ _ HR.out Tryz.underlying78 rfl (by rw [Tryz.infoBody, hsz]) ?_
      go_wp2_with fail
      rw [store_row wr w.heap.size _ (valsB (pageB l 0 252)) 78 HI.out.1 (by rw [Tryz.zeroCells78_size]; simp [valsB, pageB_len]) (vals_one _)]
      go_wp2
      refine bodyPost_ret (results_cell_row rfl _ _ w.heap.size 78 _ (0, 0) _ rfl (setRow_heap _ _ _ _ _ _ HI.out.1) Tryz.underlying78 rfl (by rw [Tryz.infoBody, hsz])) rfl ?_
      exact ⟨rfl, below_setRow HI.out.2.2 (Nat.le_refl _) _⟩
end Go.Proofs.YtphjbbbnbmafnabGreatDoor.G
