/-
  The program's page (pages.sealed): what a page of this number and content is to be: the content and its sum; nothing that was there is written.
-/
import Derived.Test.YtphjbbbnbmafnaaPSum
import Derived.Laws.CopyOwn
import Derived.Shelf.SlicesQ.Load
namespace Go.Proofs.Ytphjbbbnbmafnaa.G
open Go.RowKit

theorem store_row (w : World) (g : Nat) (cur : Array Value) (vs : List Value) (t : TypeId) (hg : w.heap[g]? = some (.cells cur t (0, 0))) (hl : vs.length = cur.size) (h1 : ∀ v ∈ vs, v.oneCell' = true) :
    Sem.run Try.prog (storeCells ⟨g, 0, none⟩ vs) w = .ok () (w.setRow g vs.toArray) := by
  have h := run_storeCells_at Try.prog g 0 t vs 0 cur w hg (by omega) h1
  have e : cur.toList.drop (0 + 0 + vs.length) = [] := List.drop_eq_nil_of_le (by simp; omega)
  rw [e] at h
  simpa using h
theorem Try.infoBody : (Try.prog.info? 143).map (·.size) = some 252 := by kernel_rfl
theorem Try.infoPage : (Try.prog.info? 140).map (·.size) = some 256 := by kernel_rfl
theorem load_row (w : World) (g : Nat) (cs : Array Value) (t : TypeId) (fr : Nat × Nat) (k : Nat) (hk : cs.size = k) (h : w.heap[g]? = some (.cells cs t fr)) :
    Sem.run Try.prog (loadCellsFrom ⟨g, 0, none⟩ 0 k #[]) w = .ok cs w := by
  have := run_loadCells_list (P := Try.prog) (w := w) ⟨g, 0, none⟩ cs.toList (fun j v hv => by
    rw [addr_add, Nat.zero_add, cell_of_row w g j cs t fr h]
    simpa using hv)
  rw [Array.length_toList, hk] at this
  simpa [loadCells] using this
set_option maxHeartbeats 4000000 in
set_option maxRecDepth 100000 in
theorem sealed_any (p : Nat) (l : List Nat) (hp : p ≤ 1000) (hl : l.length = 252) (hb : ∀ x ∈ l, x < 256) (w : World) :
    Calls Try.prog 91 #[.int .i64 (p : Int), .agg (valsB l).toArray] w fun e w' => e = .returned (.agg (valsB (l ++ Crc.be4 (Crc.sumOf p l))).toArray) ∧ Below w.heap.size w w' := by
  have hz := vals_len l
  obtain ⟨W, hW⟩ : ∃ W, W = ((w.alloc (.cells (valsB l).toArray 143)).alloc (.cells Try.zeroCells140 140)).alloc (.cells Try.zeroCells140 140) := ⟨_, rfl⟩
  have hS : W.heap.size = w.heap.size + 3 := by rw [hW]; simp
  have h0 : W.heap[w.heap.size]? = some (.cells (valsB l).toArray 143 (0, 0)) := by
    rw [hW, old_alloc (by simp; omega), old_alloc (by simp)]; exact heap_alloc_new _ _
  have h1 : W.heap[w.heap.size + 1]? = some (.cells Try.zeroCells140 140 (0, 0)) := by
    rw [hW, old_alloc (by simp)]; exact heap_alloc2_new _ _ _
  have h2 : W.heap[w.heap.size + 2]? = some (.cells Try.zeroCells140 140 (0, 0)) := by
    rw [hW]
    have h := heap_alloc_new ((w.alloc (.cells (valsB l).toArray 143)).alloc (.cells Try.zeroCells140 140)) (.cells Try.zeroCells140 140)
    simpa using h
  have HBW : Hid (Below w.heap.size w W) := (by rw [hW]; exact ((below2 _ _ _).alloc (by simp; omega) _) : Below w.heap.size w W)
  have HW : Hid _ := hW
  clear hW
  go_enter Try.func91, Try.ntmps91
  go_wp2_with fail
  rw [← HW.out]
  refine wp_load_row 143 _ rfl w.heap.size rfl _ _ _ _ h0 Try.underlying143 rfl (by rw [Try.infoBody]; simp [hz, hl]) ?_
  go_wp2_with fail
  refine (psum_any p l hp hl hb W).mono ?_
  rintro e w1 ⟨rfl, hB1⟩
  have hsl := Crc.sum_lt p l
  have HL : Hid _ := hb
  generalize hsum : Crc.sumOf p l = S at hsl
  have HSum : Hid _ := hsum
  clear hsum hb
  have H1 : Hid _ := hB1
  clear hB1
  go_wp2_with fail
  refine (hf_any S hsl w1).mono ?_
  rintro e w2 ⟨rfl, hB2⟩
  obtain ⟨b0, b1, b2, b3, hbe⟩ : ∃ b0 b1 b2 b3 : Nat, Crc.be4 S = [b0, b1, b2, b3] := ⟨_, _, _, _, rfl⟩
  have hv4 : (valsB (Crc.be4 S)).toArray = #[.int .u8 (b0 : Int), .int .u8 (b1 : Int), .int .u8 (b2 : Int), .int .u8 (b3 : Int)] := by rw [hbe]; rfl
  rw [hv4]
  have hBW2 : Below W.heap.size W w2 := chain H1.out hB2
  have HV4 : Hid _ := hv4
  clear hv4 hbe
  have g0 : w2.heap[w.heap.size]? = some (.cells (valsB l).toArray 143 (0, 0)) := by rw [hBW2.block _ (by omega)]; exact h0
  have g1 : w2.heap[w.heap.size + 1]? = some (.cells Try.zeroCells140 140 (0, 0)) := by rw [hBW2.block _ (by omega)]; exact h1
  have g2 : w2.heap[w.heap.size + 2]? = some (.cells Try.zeroCells140 140 (0, 0)) := by rw [hBW2.block _ (by omega)]; exact h2
  have gs := hBW2.size
  have G0 : Hid _ := g0
  have G1 : Hid _ := g1
  have G2 : Hid _ := g2
  have HB2 : Hid _ := hBW2
  clear hBW2 hB2 h0 h1 h2 g0 g1 g2
  go_wp2_with fail
  obtain ⟨W3, hW3⟩ : ∃ W3, W3 = w2.alloc (.cells #[.int .u8 (b0 : Int), .int .u8 (b1 : Int), .int .u8 (b2 : Int), .int .u8 (b3 : Int)] 168) := ⟨_, rfl⟩
  have k0 : W3.heap[w.heap.size]? = some (.cells (valsB l).toArray 143 (0, 0)) := by rw [hW3, old_alloc (by omega)]; exact G0.out
  have k1 : W3.heap[w.heap.size + 1]? = some (.cells Try.zeroCells140 140 (0, 0)) := by rw [hW3, old_alloc (by omega)]; exact G1.out
  have k2 : W3.heap[w.heap.size + 2]? = some (.cells Try.zeroCells140 140 (0, 0)) := by rw [hW3, old_alloc (by omega)]; exact G2.out
  have k4 : W3.heap[w2.heap.size]? = some (.cells #[.int .u8 (b0 : Int), .int .u8 (b1 : Int), .int .u8 (b2 : Int), .int .u8 (b3 : Int)] 168 (0, 0)) := by rw [hW3]; exact heap_alloc_new _ _
  have ks : W3.heap.size = w2.heap.size + 1 := by rw [hW3]; simp
  have HB3 : Hid (Below W.heap.size W W3) := (by rw [hW3]; exact HB2.out.alloc HB2.out.size _ : Below W.heap.size W W3)
  rw [← hW3]
  clear hW3
  have hcopy := run_copy_row Try.prog W3.drew 48 48 3 5 (w.heap.size + 1 + 1) 0 256 256 ⟨w.heap.size, 0, none⟩ 252 252 _ _ (valsB l) Try.underlying48 (by kernel_rfl) k2 (by rw [hz, hl]; rfl) (fun j v hv => by
      rw [addr_add, cell_of_row W3.drew w.heap.size (0 + j) (valsB l).toArray 143 (0, 0) k0]
      simpa using hv) (by rw [hz, hl, Try.zeroCells140_size]; decide) (vals_one l)
  have K0 : Hid _ := k0
  have K1 : Hid _ := k1
  have K2 : Hid _ := k2
  have K4 : Hid _ := k4
  clear k0 k1 k2 k4 G0 G1 G2
  go_region
  obtain ⟨W4, hW4⟩ : ∃ W4, W4 = W3.drew.setRow (w.heap.size + 1 + 1) (valsB l ++ List.drop 252 Try.zeroCells140.toList).toArray := ⟨_, rfl⟩
  have m1 : W4.heap[w.heap.size + 1]? = some (.cells Try.zeroCells140 140 (0, 0)) := by rw [hW4, setRow_other _ _ _ _ (by omega)]; exact K1.out
  have m2 : W4.heap[w.heap.size + 1 + 1]? = some (.cells (valsB l ++ List.drop 252 Try.zeroCells140.toList).toArray 140 (0, 0)) := by rw [hW4]; exact setRow_heap _ _ _ _ _ _ K2.out
  have m4 : W4.heap[w2.heap.size]? = some (.cells #[.int .u8 (b0 : Int), .int .u8 (b1 : Int), .int .u8 (b2 : Int), .int .u8 (b3 : Int)] 168 (0, 0)) := by rw [hW4, setRow_other _ _ _ _ (by omega)]; exact K4.out
  have HB4 : Hid (Below w.heap.size w W4) := (by
    rw [hW4]
    exact below_setRow (HBW.out.trans (HB3.out.mono (by omega))).drew (by omega) _ : Below w.heap.size w W4)
  rw [← hW4]
  clear hW4 hcopy
  generalize hrest : List.drop 252 Try.zeroCells140.toList = rest at m2
  have hrl : rest.length = 4 := by rw [← hrest]; simp [Try.zeroCells140_size]
  clear hrest
  have hcopy2 := run_copy_row Try.prog W4.drew 48 48 3 5 (w.heap.size + 1 + 1) 252 4 4 ⟨w2.heap.size, 0, none⟩ 4 4 _ _ [.int .u8 (b0 : Int), .int .u8 (b1 : Int), .int .u8 (b2 : Int), .int .u8 (b3 : Int)] Try.underlying48 (by kernel_rfl) m2 rfl (fun j v hv => by
      rw [addr_add, cell_of_row W4.drew w2.heap.size (0 + j) _ 168 (0, 0) m4]
      simpa using hv) (by simp [hz, hl, hrl]) (four_one _ _ _ _)
  have hcur : (List.take 252 (valsB l ++ rest) ++ [Value.int .u8 (b0 : Int), .int .u8 (b1 : Int), .int .u8 (b2 : Int), .int .u8 (b3 : Int)] ++ List.drop (252 + 4) (valsB l ++ rest)).toArray = (valsB (l ++ Crc.be4 S)).toArray := by
    have e1 : List.take 252 (valsB l ++ rest) = valsB l := by rw [List.take_append_of_le_length (by omega), List.take_of_length_le (by omega)]
    have e2 : List.drop (252 + 4) (valsB l ++ rest) = [] := List.drop_eq_nil_of_le (by simp [hz, hl, hrl])
    have e3 : [Value.int .u8 (b0 : Int), .int .u8 (b1 : Int), .int .u8 (b2 : Int), .int .u8 (b3 : Int)] = valsB (Crc.be4 S) := by
      have := congrArg Array.toList HV4.out
      simpa using this.symm
    rw [e1, e2, e3, valsB_append, List.append_nil]
  have hcopy3 : (Builtin.copy_ #[48, 48] 3 #[.slice (some ⟨w.heap.size + 1 + 1, 252, none⟩) 4 4, .slice (some ⟨w2.heap.size, 0, none⟩) 4 4]).run Try.prog W4.drew = .ok (goInt 4) (W4.drew.setRow (w.heap.size + 1 + 1) (valsB (l ++ Crc.be4 S)).toArray) := by
    rw [← hcur]
    exact hcopy2
  have M1 : Hid _ := m1
  have M2 : Hid _ := m2
  clear hcopy2 hcur m1 m2 m4
  go_wp2_with fail
  go_region
  have hfin : (valsB (l ++ Crc.be4 S)).toArray.size = 256 := by simp [valsB, hl, Crc.be4]
  obtain ⟨W5, hW5⟩ : ∃ W5, W5 = W4.drew.setRow (w.heap.size + 1 + 1) (valsB (l ++ Crc.be4 S)).toArray := ⟨_, rfl⟩
  have n1 : W5.heap[w.heap.size + 1]? = some (.cells Try.zeroCells140 140 (0, 0)) := by rw [hW5, setRow_other _ _ _ _ (by omega)]; exact M1.out
  have n2 : W5.heap[w.heap.size + 1 + 1]? = some (.cells (valsB (l ++ Crc.be4 S)).toArray 140 (0, 0)) := by rw [hW5]; exact setRow_heap _ _ _ _ _ _ M2.out
  have HB5 : Hid (Below w.heap.size w W5) := (by
    rw [hW5]
    exact below_setRow HB4.out.drew (by omega) _ : Below w.heap.size w W5)
  rw [← hW5]
  have N1 : Hid _ := n1
  have N2 : Hid _ := n2
  clear hW5 n1 n2 hcopy3
  go_wp2_with fail
  refine wp_load_row 140 _ rfl (w.heap.size + 1 + 1) rfl _ _ _ _ N2.out Try.underlying140 rfl (by rw [Try.infoPage, hfin]) ?_
  go_wp2_with fail
  rw [store_row W5 (w.heap.size + 1) _ (valsB (l ++ Crc.be4 S)) 140 N1.out (by rw [Try.zeroCells140_size, ← hfin]; simp) (vals_one _)]
  go_wp2
  refine bodyPost_ret (results_cell_row rfl _ _ (w.heap.size + 1) 140 _ (0, 0) _ rfl (setRow_heap _ _ _ _ _ _ N1.out) Try.underlying140 rfl (by rw [Try.infoPage, hfin])) rfl ?_
  exact ⟨by rw [HSum.out], below_setRow HB5.out (by omega) _⟩
end Go.Proofs.Ytphjbbbnbmafnaa.G
