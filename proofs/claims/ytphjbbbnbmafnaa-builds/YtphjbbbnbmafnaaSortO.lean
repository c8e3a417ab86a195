/-
  slices.SortFunc over a row of edges of one's own, by the program's compare: the row then holds the edges in order; nothing else that was there is written.
-/
import Derived.Test.YtphjbbbnbmafnaaSortE
namespace Go.Proofs.Ytphjbbbnbmafnaa.G
open Go.RowKit Go.Shelf Go.Lib Go.Sort

def encE (x : E3) : List Value := [.int .i64 x.1, .int .i64 x.2.1, .int .i64 x.2.2]
theorem flat_cons (e : E3) (l : List E3) : flat (e :: l) = encE e ++ flat l := by unfold flat encE; rw [List.flatMap_cons]
theorem flat_at : ∀ (l : List E3) (t : Nat), t < l.length * 3 → (flat l)[t]? = some ((encE l[t / 3]!)[t % 3]!)
  | [], t, h => by simp at h
  | e :: l, t, h => by
    rw [flat_cons]
    by_cases ht : t < 3
    · rw [List.getElem?_append_left (by simpa [encE] using ht)]
      match t, ht with
      | 0, _ => rfl
      | 1, _ => rfl
      | 2, _ => rfl
    · rw [List.getElem?_append_right (by simp [encE]; omega)]
      have ih := flat_at l (t - 3) (by simp at h; omega)
      rw [show (encE e).length = 3 from rfl, ih, show t / 3 = (t - 3) / 3 + 1 by omega, show (t - 3) % 3 = t % 3 by omega]
      simp
theorem flatK_flat (l : List E3) : flatK encE 3 l.toArray = (flat l).toArray := by
  apply Array.ext_getElem?
  intro t
  by_cases h : t < l.length * 3
  · have h1 : (flatK encE 3 l.toArray)[t]? = some (flatK encE 3 l.toArray)[t]! := by
      rw [getElem!_pos _ t (by simpa using h), Array.getElem?_eq_getElem (by simpa using h)]
    rw [h1, get_flatK _ _ _ _ (by simpa using h), List.getElem?_toArray, flat_at l t h]
    simp
  · rw [Array.getElem?_eq_none (by simp; omega), List.getElem?_toArray, List.getElem?_eq_none (by rw [flat_len]; omega)]
theorem holdsE {W : World} {g : Nat} {cur : Array Value} {t : TypeId} {l : List E3} (hb : W.heap[g]? = some (.cells cur t (0, 0))) (ht : cur.toList.take (l.length * 3) = flat l) : HoldsK encE 3 W g 0 l.toArray := by
  unfold HoldsK
  rw [flatK_flat]
  intro j hj
  have hj' : j < (flat l).length := by simpa using hj
  have hj2 := hj'
  rw [flat_len] at hj2
  refine ⟨?_, by simp [World.frozen?, hb]⟩
  rw [cell_of_row W g (0 + j) cur t (0, 0) hb, Nat.zero_add, ← Array.getElem?_toList]
  have h1 : (cur.toList.take (l.length * 3))[j]? = (flat l)[j]? := by rw [ht]
  rw [List.getElem?_take_of_lt hj2] at h1
  rw [h1, List.getElem?_eq_getElem hj']
  simp [hj']
theorem heap_sortK {w : World} {g n : Nat} {os : Array Obj} {cur : Array Value} {e : TypeId} {fr : Nat × Nat} (l : List E3) (hb : w.heap[g]? = some (.cells cur e fr)) :
    (sortWorldK encE 3 w g 0 n l.toArray os).heap[g]? = some (.cells (putCells id 0 (flat l).toArray cur) e fr) := by
  have hg : g < w.heap.size := (Array.getElem?_eq_some_iff.1 hb).1
  unfold sortWorldK putRowK
  rw [flatK_flat, heap_grow_old _ _ (by simpa using hg)]
  simp [putRow, mapBlock, Sort.ahead, Array.getElem?_modify, hb, onCells]
theorem grown_sortK {w : World} {g n : Nat} {os : Array Obj} (d : Array E3) : w.grownBy (sortWorldK encE 3 w g 0 n d os) (some g) := by
  refine ⟨rfl, rfl, rfl, by simp [sortWorldK, putRowK], fun k hk hne => ?_⟩
  unfold sortWorldK putRowK
  rw [heap_grow_old _ _ (by simpa using hk)]
  have : g ≠ k := fun e => hne (by rw [e])
  simp [putRow, mapBlock, Sort.ahead, Array.getElem?_modify, this]
theorem take_put (cur : Array Value) (ts : List Value) (h : ts.length ≤ cur.size) : (putCells id 0 ts.toArray cur).toList.take ts.length = ts := by
  apply List.ext_getElem?
  intro j
  by_cases hj : j < ts.length
  · rw [List.getElem?_take_of_lt hj, Array.getElem?_toList]
    simp [putCells, hj, show j < cur.size by omega]
  · rw [List.getElem?_take_eq_none (by omega), List.getElem?_eq_none (by omega)]
theorem cmpLaysE (blk off size : Nat) (w : World) : CmpLays Try.prog 102 #[] encE 3 cfE blk off size w :=
  fun _ _ _ _ x y => (compare_any x.1 x.2.1 x.2.2 y.1 y.2.1 y.2.2 _).mono fun _ _ h => h
set_option maxHeartbeats 1000000 in
theorem sortf_own (l : List E3) (base : Nat) (v : Value) (W : World) (hrow : W.ownsRow base 112 3 v l.length (flat l)) (hl : l.length ≤ 1000000) :
    Calls Try.prog 122 #[v, .func (.func 102) #[] #[]] W fun e w' => e = .returned (.tuple #[]) ∧ w'.ownsRow base 112 3 v l.length (flat (l.mergeSort fun x y => !Gm.ltE y x)) ∧ W.grownBy w' v.ownBlock := by
  rcases hrow.2 with ⟨rfl, h0⟩ | ⟨g, cap, cur, rfl, hbase, hgb, r1, r2, r3, r4⟩
  · obtain rfl : l = [] := List.eq_nil_of_length_eq_zero h0
    refine (AnyF.slices_SortFunc_none { Try.sortE with } none 0 (.func (.func 102) #[] #[]) W).mono ?_
    rintro e w' ⟨rfl, rfl⟩
    exact ⟨rfl, by simpa using hrow, ⟨rfl, rfl, rfl, Nat.le_refl _, fun _ _ _ => rfl⟩⟩
  · have eg : ∀ args w, (callFunc 102 args).run Try.prog w = .ok (.enter 102 args) w := enters_of Try.func102 (by kernel_rfl) rfl
    have hcon := AnyQ.slices_SortFunc_total Try.sortE 3 Try.isAgg112 Try.sizeOf112 encE (fun _ => rfl) (fun x v hv => by simp [encE] at hv; rcases hv with rfl | rfl | rfl <;> rfl) cfE swoE 102 #[] g 0 cap l.toArray W eg (cmpLaysE g 0 _ W) (holdsE hgb r4) (Array.getElem?_eq_some_iff.1 hgb).1 (by simp; omega) (fun x y h1 h2 => by rw [cfE_lt] at h1 h2; exact Gm.ltE_one x y h1 h2)
    change Calls Try.prog 122 _ _ _ at hcon
    simp only [List.size_toArray] at hcon
    refine hcon.mono ?_
    rintro e w' ⟨rfl, n, os, rfl⟩
    have hs : (l.toArray.toList.mergeSort fun x y => !ltOf cfE y x) = l.mergeSort fun x y => !Gm.ltE y x := by
      simp only [cfE_lt]
    rw [hs]
    have hm : (l.mergeSort fun x y => !Gm.ltE y x).length = l.length := List.length_mergeSort _
    refine ⟨rfl, ⟨by rw [flat_len, hm], .inr ⟨g, cap, _, rfl, hbase, heap_sortK _ hgb, r1, r2, by simp [putCells, r3], ?_⟩⟩, grown_sortK _⟩
    have h2 := take_put cur (flat (l.mergeSort fun x y => !Gm.ltE y x)) (by rw [flat_len, hm, r3]; exact Nat.mul_le_mul_right _ r1)
    rw [flat_len, hm] at h2
    exact h2
end Go.Proofs.Ytphjbbbnbmafnaa.G
