/-
  slices.Compact over a row of edges of one's own: what is the same as the one ahead of it falls; nothing else that was there is written.
-/
import Derived.Test.YtphjbbbnbmafnabGreatDoorEqE
import Derived.Test.YtphjbbbnbmafnabGreatDoorSortO
import Derived.Laws.CopyRow
namespace Go.Proofs.YtphjbbbnbmafnabGreatDoor.G
open Go.RowKit

/-- a block of edges -/
def RowE (W : World) (g cap : Nat) (L : List E3) : Prop := ∃ cur, W.heap[g]? = some (.cells cur 41 (0, 0)) ∧ cur.size = cap * 3 ∧ cur.toList.take (L.length * 3) = flat L
theorem flat_three {l : List E3} {j : Nat} {e : E3} (h : l[j]? = some e) : (flat l)[j * 3]? = some (.int .i64 e.1) ∧ (flat l)[j * 3 + 1]? = some (.int .i64 e.2.1) ∧ (flat l)[j * 3 + 2]? = some (.int .i64 e.2.2) := by
  have hj : j < l.length := by
    rcases Nat.lt_or_ge j l.length with e' | e'
    · exact e'
    · rw [List.getElem?_eq_none e'] at h; cases h
  have he : l[j]! = e := by
    rw [getElem!_pos l j hj]
    rw [List.getElem?_eq_getElem hj] at h
    exact Option.some.inj h
  refine ⟨?_, ?_, ?_⟩
  · rw [flat_at l (j * 3) (by omega), show j * 3 / 3 = j by omega, show j * 3 % 3 = 0 by omega, he]; rfl
  · rw [flat_at l (j * 3 + 1) (by omega), show (j * 3 + 1) / 3 = j by omega, show (j * 3 + 1) % 3 = 1 by omega, he]; rfl
  · rw [flat_at l (j * 3 + 2) (by omega), show (j * 3 + 2) / 3 = j by omega, show (j * 3 + 2) % 3 = 2 by omega, he]; rfl
theorem take_snoc' {l : List E3} {k : Nat} {x : E3} (h : l[k]? = some x) : l.take (k + 1) = l.take k ++ [x] := by rw [List.take_add_one, h]; rfl
theorem len_of {l : List E3} {j : Nat} {e : E3} (h : l[j]? = some e) : j < l.length := by
  rcases Nat.lt_or_ge j l.length with e' | e'
  · exact e'
  · rw [List.getElem?_eq_none e'] at h; cases h
theorem RowE.cells {W : World} {g cap : Nat} {L : List E3} (h : RowE W g cap L) {j : Nat} {e : E3} (hj : L[j]? = some e) : W.cell? ⟨g, j * 3, none⟩ = some (.int .i64 e.1) ∧ W.cell? ⟨g, j * 3 + 1, none⟩ = some (.int .i64 e.2.1) ∧ W.cell? ⟨g, j * 3 + 2, none⟩ = some (.int .i64 e.2.2) := by
  obtain ⟨cur, hg, _, ht⟩ := h
  have hl := len_of hj
  obtain ⟨h0, h1, h2⟩ := flat_three hj
  rw [← ht] at h0 h1 h2
  rw [List.getElem?_take_of_lt (by omega), Array.getElem?_toList] at h0 h1 h2
  exact ⟨by rw [cell_of_row W g _ cur _ _ hg]; exact h0, by rw [cell_of_row W g _ cur _ _ hg]; exact h1, by rw [cell_of_row W g _ cur _ _ hg]; exact h2⟩
theorem RowE.frozen {W : World} {g cap : Nat} {L : List E3} (h : RowE W g cap L) (o : Nat) : W.frozen? ⟨g, o, none⟩ = false := by
  obtain ⟨cur, hg, _, _⟩ := h
  exact frozen_of_row W g o cur _ hg
theorem RowE.drewN {W : World} {g cap : Nat} {L : List E3} (h : RowE W g cap L) (q : Nat) : RowE (W.drewN q) g cap L := h
theorem flat_append (l m : List E3) : flat (l ++ m) = flat l ++ flat m := by unfold flat; rw [List.flatMap_append]
theorem flat_set : ∀ (l : List E3) (k : Nat) (x : E3), k < l.length → flat (l.set k x) = (((flat l).set (k * 3) (.int .i64 x.1)).set (k * 3 + 1) (.int .i64 x.2.1)).set (k * 3 + 2) (.int .i64 x.2.2)
  | [], _, _, h => by simp at h
  | e :: l, 0, x, _ => by rw [List.set_cons_zero, flat_cons, flat_cons]; rfl
  | e :: l, k + 1, x, h => by
    rw [List.set_cons_succ, flat_cons, flat_cons, flat_set l k x (by simpa using h)]
    rw [show (k + 1) * 3 = (encE e).length + k * 3 by simp [encE]; omega, show (encE e).length + k * 3 + 1 = (encE e).length + (k * 3 + 1) by omega, show (encE e).length + k * 3 + 2 = (encE e).length + (k * 3 + 2) by omega]
    rw [List.set_append_right _ _ (by omega), List.set_append_right _ _ (by omega), List.set_append_right _ _ (by omega)]
    simp
theorem RowE.put {W : World} {g cap : Nat} {L : List E3} (h : RowE W g cap L) {k : Nat} (x : E3) (hk : k < L.length) : RowE (((W.setCell ⟨g, k * 3, none⟩ (.int .i64 x.1)).setCell ⟨g, k * 3 + 1, none⟩ (.int .i64 x.2.1)).setCell ⟨g, k * 3 + 2, none⟩ (.int .i64 x.2.2)) g cap (L.set k x) := by
  obtain ⟨cur, hg, hs, ht⟩ := h
  have h1 := heap_setCell_same W g (k * 3) cur _ (.int .i64 x.1) hg
  have h2 := heap_setCell_same _ g (k * 3 + 1) _ _ (.int .i64 x.2.1) h1
  have h3 := heap_setCell_same _ g (k * 3 + 2) _ _ (.int .i64 x.2.2) h2
  refine ⟨_, h3, by simp [hs], ?_⟩
  rw [flat_set L k x hk, ← ht, List.length_set]
  simp only [Array.toList_setIfInBounds]
  rw [List.take_set, List.take_set, List.take_set]
theorem gb_trans {A B C : World} {r : Option Nat} (h : A.grownBy B r) (k : B.grownBy C r) : A.grownBy C r :=
  ⟨k.os.trans h.os, k.tape.trans h.tape, k.output.trans h.output, Nat.le_trans h.size k.size, fun i hi hr => (k.block i (Nat.lt_of_lt_of_le hi h.size) hr).trans (h.block i hi hr)⟩
theorem gb_set (W : World) (g o : Nat) (v : Value) : W.grownBy (W.setCell ⟨g, o, none⟩ v) (some g) :=
  ⟨rfl, rfl, rfl, by simp [World.setCell], fun k _ hk => heap_setCell_other _ _ _ _ (fun e => hk (by rw [e]))⟩
theorem gb_drewN (W : World) (q : Nat) (r : Option Nat) : W.grownBy (W.drewN q) r := ⟨rfl, rfl, rfl, Nat.le_refl _, fun _ _ _ => rfl⟩
theorem gb_row (W : World) (g : Nat) (cs : Array Value) : W.grownBy (W.setRow g cs) (some g) :=
  ⟨rfl, rfl, rfl, by simp, fun k _ hk => setRow_other _ _ _ _ (fun e => hk (by rw [e]))⟩
theorem clear_rows (W : World) (g o n c : Nat) (ty t : TypeId) (cur : Array Value) (hg : W.heap[g]? = some (.cells cur t (0, 0))) (hn : 0 < n) (hfit : o + n * 3 ≤ cur.size) :
    ∃ vs : List Value, vs.length = n * 3 ∧ (Builtin.clear_ #[27] ty #[.slice (some ⟨g, o, none⟩) n c]).run Tryz.prog W = .ok (.tuple #[]) (W.setRow g (cur.toList.take o ++ vs ++ cur.toList.drop (o + vs.length)).toArray) := by
  refine ⟨(Builtin.zeroCells #[.int .i64 0, .int .i64 0, .int .i64 0] n).toList, by simp [Builtin.zeroCells], ?_⟩
  have hl : (Builtin.zeroCells #[.int .i64 0, .int .i64 0, .int .i64 0] n).toList.length = n * 3 := by simp [Builtin.zeroCells]
  have hst := run_storeCells_at Tryz.prog g o t (Builtin.zeroCells #[.int .i64 0, .int .i64 0, .int .i64 0] n).toList 0 cur W hg (by rw [hl]; omega) (fun v hv => by
    simp only [Builtin.zeroCells, Array.toList_map, List.mem_map] at hv
    obtain ⟨i, _, rfl⟩ := hv
    have : i % 3 < 3 := Nat.mod_lt _ (by decide)
    rcases (show i % 3 = 0 ∨ i % 3 = 1 ∨ i % 3 = 2 by omega) with e | e | e <;> simp [e] <;> rfl)
  simp only [Nat.add_zero] at hst
  obtain ⟨m, rfl⟩ : ∃ m, n = m + 1 := ⟨n - 1, by omega⟩
  have hz : (zeroValue 41).run Tryz.prog W = .ok (.agg #[.int .i64 0, .int .i64 0, .int .i64 0]) W := Tryz.zeroValue41 W
  simp [Builtin.clear_, run_underlying Tryz.underlying27, hz, Value.cells, hst]
end Go.Proofs.YtphjbbbnbmafnabGreatDoor.G
