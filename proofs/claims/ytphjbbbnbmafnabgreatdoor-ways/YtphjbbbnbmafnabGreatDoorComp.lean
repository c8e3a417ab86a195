/-
  The program's order of edges (compareLabels, compare, by cmp.Compare and cmp.Or): -1, 0 or 1 as the edges lie; only new blocks are laid.
  slices.SortFunc over a row of edges of one's own, by the program's compare: the row then holds the edges in order; nothing else that was there is written.
  slices.Values, slices.AppendSeq and slices.Collect at edges: a new list of the edges of a slice, in their order; nothing that was there is written.
  slices.AppendSeq, slices.Collect, slices.SortedFunc over slices.Values at edges: a new list of the edges, in order by the program's compare; nothing that was there is written.
  slices.Compact over a row of edges of one's own: what is the same as the one ahead of it falls; nothing else that was there is written.
-/
import Derived.Test.YtphjbbbnbmafnabGreatDoorEqE
import Derived.Test.YtphjbbbnbmafnabGreatDoorGMath
import Derived.Test.YtphjbbbnbmafnabGreatDoorPWrite
import Derived.Shelf.SlSortCmp.NoneTotal
import Derived.Deep.RegionHeld
import Derived.RangeFuncNested
import Derived.RangeFuncBox
import Derived.RangeFuncBound
import Derived.RangeFuncCalls
import Derived.RangeFuncLeaves
import Derived.Shelf.Abstract
import Derived.Shelf.RegionOpen
import Derived.WalkKit
import Derived.OwnWalkIn
import Derived.TacticsInMore
import Derived.LoopNIn
import Derived.LoopIn
import Derived.Laws.CopyRow
namespace Go.Proofs.YtphjbbbnbmafnabGreatDoor.G
open Go.RowKit Go.Shelf Go.Lib Go.Sort

/-- worlds that have come by new blocks and draws alone -/
def Gr (w w' : World) : Prop := ∃ q os, w' = grow (w.drewN q) os
theorem Gr.refl (w : World) : Gr w w := ⟨0, #[], by simp; rfl⟩
theorem Gr.alloc {w w' : World} (h : Gr w w') (o : Obj) : Gr w (w'.alloc o) := by
  obtain ⟨q, os, rfl⟩ := h
  exact ⟨q, os ++ #[o], by rw [alloc_eq_grow, grow_grow]⟩
theorem Gr.drew {w w' : World} (h : Gr w w') : Gr w w'.drew := by
  obtain ⟨q, os, rfl⟩ := h
  exact ⟨q + 1, os, rfl⟩
theorem cell_al {W : World} {p : Addr} {v : Value} {o : Obj} (h : W.cell? p = some v) : (W.alloc o).cell? p = some v := cell_kept (below1 W o) p v h
theorem cell_dr {W : World} {p : Addr} {v : Value} (h : W.cell? p = some v) : W.drew.cell? p = some v := h
/-- which of two edges is ahead -/
def orI (a b c : Int) : Int := if a ≠ 0 then a else if b ≠ 0 then b else c
def cfE (a b : E3) : Int := orI (compareInt a.1 b.1) (compareInt a.2.1 b.2.1) (compareInt a.2.2 b.2.2)
theorem cmpI (x y : Int) : (compareInt x y = -1 ∧ x < y) ∨ (compareInt x y = 0 ∧ x = y) ∨ (compareInt x y = 1 ∧ y < x) := by
  unfold compareInt
  by_cases h1 : x < y
  · left; simp [h1]
  · by_cases h2 : y < x
    · right; right; simp [h1, h2]
    · right; left; simp [h1, h2]; omega
theorem cfE_lt (a b : E3) : ltOf cfE a b = Gm.ltE a b := by
  unfold ltOf cfE orI Gm.ltE
  rcases cmpI a.1 b.1 with ⟨e1, h1⟩ | ⟨e1, h1⟩ | ⟨e1, h1⟩
  · rw [e1, if_neg (by omega : ¬ a.1 = b.1)]; simp [h1]
  · rw [e1, if_pos h1]
    rcases cmpI a.2.1 b.2.1 with ⟨e2, h2⟩ | ⟨e2, h2⟩ | ⟨e2, h2⟩
    · rw [e2, if_neg (by omega : ¬ a.2.1 = b.2.1)]; simp [h2]
    · rw [e2, if_pos h2]
      rcases cmpI a.2.2 b.2.2 with ⟨e3, h3⟩ | ⟨e3, h3⟩ | ⟨e3, h3⟩ <;> rw [e3] <;> simp <;> omega
    · rw [e2, if_neg (by omega : ¬ a.2.1 = b.2.1)]; simp; omega
  · rw [e1, if_neg (by omega : ¬ a.1 = b.1)]; simp; omega
theorem swoE : SWO (ltOf cfE) where
  irrefl x := by rw [cfE_lt]; exact Gm.ltE_irrefl x
  trans x y z h1 h2 := by rw [cfE_lt] at *; exact Gm.ltE_trans x y z h1 h2
  ntrans x y z h1 h2 := by rw [cfE_lt] at *; exact Gm.ltE_ntrans x y z h1 h2
set_option maxHeartbeats 1000000 in
theorem cmplab_any (f l t f' l' t' : Int) (w : World) :
    Calls Tryz.prog 49 #[.agg #[.int .i64 f, .int .i64 l, .int .i64 t], .agg #[.int .i64 f', .int .i64 l', .int .i64 t']] w fun e w' => e = .returned (.int .i64 (compareInt l l')) ∧ w' = (w.alloc (.cells #[.int .i64 f, .int .i64 l, .int .i64 t] 41)).alloc (.cells #[.int .i64 f', .int .i64 l', .int .i64 t'] 41) := by
  obtain ⟨k0, k1, k2, k3, k4, k5⟩ := two3 w (.int .i64 f) (.int .i64 l) (.int .i64 t) (.int .i64 f') (.int .i64 l') (.int .i64 t') 41
  have HC : ∀ W, Hid (Calls Tryz.prog 73 #[.int .i64 l, .int .i64 l'] W fun e w' => e = .returned (.int .i64 (compareInt l l')) ∧ w' = W) := fun W => Tryz.cmp_Compare_int l l' W
  go_enter Tryz.func49, Tryz.ntmps49
  go_wp2_with (go_at_call 73; refine (Calls.mono (HC _).out ?_); rintro e w' ⟨rfl, rfl⟩)
  go_ret
  exact ⟨rfl, rfl⟩
set_option maxHeartbeats 1000000 in
set_option maxRecDepth 100000 in
theorem or_any (a b c : Int) (g : Nat) (w : World) (h0 : w.cell? ⟨g, 0, none⟩ = some (.int .i64 a)) (h1 : w.cell? ⟨g, 1, none⟩ = some (.int .i64 b)) (h2 : w.cell? ⟨g, 2, none⟩ = some (.int .i64 c)) :
    Calls Tryz.prog 72 #[.slice (some ⟨g, 0, none⟩) 3 3] w fun e w' => e = .returned (.int .i64 (orI a b c)) ∧ w' = w := by
  have HC : Hid (∀ j : Nat, j < 3 → w.cell? ⟨g, j, none⟩ = some (.int .i64 ([a, b, c].getD j 0))) := (fun j hj => by
    match j, hj with
    | 0, _ => exact h0
    | 1, _ => exact h1
    | 2, _ => exact h2 : ∀ j : Nat, j < 3 → w.cell? ⟨g, j, none⟩ = some (.int .i64 ([a, b, c].getD j 0)))
  clear h0 h1 h2
  go_enter Tryz.func72, Tryz.ntmps72
  go_wp2
  go_loop [8] (fun si => ∃ i : Nat, i ≤ 3 ∧ si = .int .i64 (i : Int) ∧ Hid (∀ j < i, [a, b, c].getD j 0 = 0)) (fun si => 3 - (intOf si).toNat)
  case atStart => exact ⟨0, Nat.zero_le _, rfl, (fun j hj => absurd hj (Nat.not_lt_zero _) : ∀ j < 0, [a, b, c].getD j 0 = 0)⟩
  case round =>
    obtain ⟨i, hi, rfl, HI⟩ := hrel
    by_cases hlt : i < 3
    · have hc := HC.out i hlt
      obtain ⟨x, hx⟩ : ∃ x, [a, b, c].getD i 0 = x := ⟨_, rfl⟩
      rw [hx] at hc
      have HX : Hid _ := hx
      clear hx
      by_cases hz : x = 0
      · have hzb : (x != 0) = false := by simpa using hz
        have HZ : Hid _ := hz
        clear hz
        go_wp2
        go_round
        case rel => exact ⟨i + 1, by omega, by go_num, (fun j hj => by
          rcases Nat.lt_or_ge j i with h | h
          · exact HI.out j h
          · rw [show j = i by omega, HX.out, HZ.out] : ∀ j < i + 1, [a, b, c].getD j 0 = 0)⟩
        case measure => simp [intOf] <;> omega
      · have hzb : (x != 0) = true := by simpa using hz
        have HR : Hid (x = orI a b c) := (by
          unfold orI
          have h0 := HI.out
          match i, hlt, HX.out, h0 with
          | 0, _, e, _ => rw [show a = x from e, if_pos hz]
          | 1, _, e, h0 => rw [if_neg (by rw [show a = 0 from h0 0 (by decide)]; simp), show b = x from e, if_pos hz]
          | 2, _, e, h0 => rw [if_neg (by rw [show a = 0 from h0 0 (by decide)]; simp), if_neg (by rw [show b = 0 from h0 1 (by decide)]; simp), show c = x from e] : x = _)
        clear hz
        go_wp2
        go_ret
        exact ⟨ret1 (by rw [← HR.out]; rfl), rfl⟩
    · obtain rfl : i = 3 := by omega
      have HR : Hid (0 = orI a b c) := (by
        unfold orI
        have h0 := HI.out
        rw [if_neg (by rw [show a = 0 from h0 0 (by decide)]; simp), if_neg (by rw [show b = 0 from h0 1 (by decide)]; simp), show c = 0 from h0 2 (by decide)] : (0 : Int) = _)
      go_wp2
      go_ret
      exact ⟨ret1 (by rw [← HR.out]; rfl), rfl⟩
theorem or_call (a b c : Int) (W : World) (o1 o2 : Obj) : Calls Tryz.prog 72 #[.slice (some ⟨W.heap.size + 1 + 1, 0, none⟩) 3 3] (((W.alloc o1).alloc o2).alloc (.cells #[.int .i64 a, .int .i64 b, .int .i64 c] 3)).drew fun e w' => e = .returned (.int .i64 (orI a b c)) ∧ w' = (((W.alloc o1).alloc o2).alloc (.cells #[.int .i64 a, .int .i64 b, .int .i64 c] 3)).drew := by
  have e : W.heap.size + 1 + 1 = ((W.alloc o1).alloc o2).heap.size := by simp
  rw [e]
  generalize (W.alloc o1).alloc o2 = V
  exact or_any a b c V.heap.size _ (cell_dr (by simp)) (cell_dr (by simp)) (cell_dr (by simp))
set_option maxHeartbeats 8000000 in
set_option maxRecDepth 100000 in
theorem compare_any (f l t f' l' t' : Int) (w : World) :
    Calls Tryz.prog 40 #[.agg #[.int .i64 f, .int .i64 l, .int .i64 t], .agg #[.int .i64 f', .int .i64 l', .int .i64 t']] w fun e w' => e = .returned (.int .i64 (orI (compareInt f f') (compareInt l l') (compareInt t t'))) ∧ Gr w w' := by
  obtain ⟨k0, k1, k2, k3, k4, k5⟩ := two3 w (.int .i64 f) (.int .i64 l) (.int .i64 t) (.int .i64 f') (.int .i64 l') (.int .i64 t') 41
  have HG : Hid (Gr w ((w.alloc (.cells #[.int .i64 f, .int .i64 l, .int .i64 t] 41)).alloc (.cells #[.int .i64 f', .int .i64 l', .int .i64 t'] 41))) := ((Gr.refl w).alloc _).alloc _
  have HC1 : ∀ W, Hid (Calls Tryz.prog 73 #[.int .i64 f, .int .i64 f'] W fun e w' => e = .returned (.int .i64 (compareInt f f')) ∧ w' = W) := fun W => Tryz.cmp_Compare_int f f' W
  have HC3 : ∀ W, Hid (Calls Tryz.prog 73 #[.int .i64 t, .int .i64 t'] W fun e w' => e = .returned (.int .i64 (compareInt t t')) ∧ w' = W) := fun W => Tryz.cmp_Compare_int t t' W
  have HC2 : ∀ W, Hid (Calls Tryz.prog 49 #[.agg #[.int .i64 f, .int .i64 l, .int .i64 t], .agg #[.int .i64 f', .int .i64 l', .int .i64 t']] W fun e w' => e = .returned (.int .i64 (compareInt l l')) ∧ w' = (W.alloc (.cells #[.int .i64 f, .int .i64 l, .int .i64 t] 41)).alloc (.cells #[.int .i64 f', .int .i64 l', .int .i64 t'] 41)) := fun W => cmplab_any f l t f' l' t' W
  generalize compareInt f f' = c1 at HC1 ⊢
  generalize compareInt l l' = c2 at HC2 ⊢
  generalize compareInt t t' = c3 at HC3 ⊢
  go_enter Tryz.func40, Tryz.ntmps40
  go_wp2_with fail
  generalize hW : (w.alloc (.cells #[.int .i64 f, .int .i64 l, .int .i64 t] 41)).alloc (.cells #[.int .i64 f', .int .i64 l', .int .i64 t'] 41) = W at k0 k1 k2 k3 k4 k5 HG ⊢
  clear hW
  go_region_held (fun w' => w'.cell? ⟨w.heap.size, 0, none⟩ = some (.int .i64 f) ∧ w'.cell? ⟨w.heap.size, 1, none⟩ = some (.int .i64 l) ∧ w'.cell? ⟨w.heap.size, 2, none⟩ = some (.int .i64 t) ∧ w'.cell? ⟨w.heap.size + 1, 0, none⟩ = some (.int .i64 f') ∧ w'.cell? ⟨w.heap.size + 1, 1, none⟩ = some (.int .i64 l') ∧ w'.cell? ⟨w.heap.size + 1, 2, none⟩ = some (.int .i64 t')) (refine ⟨?_, ?_, ?_, ?_, ?_, ?_⟩ <;> (repeat (first | assumption | apply cell_dr | apply cell_al)))
    (first
      | (go_at_call_of 73 (Value.int IntKind.i64 f); refine (Calls.mono (HC1 _).out ?_); rintro e w' ⟨rfl, rfl⟩)
      | (go_at_call_of 73 (Value.int IntKind.i64 t); refine (Calls.mono (HC3 _).out ?_); rintro e w' ⟨rfl, rfl⟩)
      | (go_at_call 49; refine (Calls.mono (HC2 _).out ?_); rintro e w' ⟨rfl, rfl⟩)
      | (go_at_call 72; refine (or_call c1 c2 c3 _ _ _).mono ?_; rintro e w' ⟨rfl, rfl⟩))
  go_wp2
  go_ret
  exact ⟨rfl, ((((HG.out).alloc _).alloc _).alloc _).drew⟩
end Go.Proofs.YtphjbbbnbmafnabGreatDoor.G

namespace Go.Proofs.YtphjbbbnbmafnabGreatDoor.G
open Go.RowKit Go.Shelf Go.Lib Go.Sort

def encE (x : E3) : List Value := [.int .i64 x.1, .int .i64 x.2.1, .int .i64 x.2.2]
theorem flat_cons (e : E3) (l : List E3) : flat (e :: l) = encE e ++ flat l := by unfold flat encE; rw [List.flatMap_cons]
theorem flat_at : ∀ (l : List E3) (t : Nat), t < l.length * 3 → (flat l)[t]? = some ((encE l[t / 3]!)[t % 3]!)
  | [], t, h => by simp at h
  | e :: l, t, h => by
    rw [flat_cons]
    by_cases ht : t < 3
    · rw [List.getElem?_append_left (by simpa [encE] using ht)]
      match t, ht with
      | 0, _ => rfl
      | 1, _ => rfl
      | 2, _ => rfl
    · rw [List.getElem?_append_right (by simp [encE]; omega)]
      have ih := flat_at l (t - 3) (by simp at h; omega)
      rw [show (encE e).length = 3 from rfl, ih, show t / 3 = (t - 3) / 3 + 1 by omega, show (t - 3) % 3 = t % 3 by omega]
      simp
theorem flatK_flat (l : List E3) : flatK encE 3 l.toArray = (flat l).toArray := by
  apply Array.ext_getElem?
  intro t
  by_cases h : t < l.length * 3
  · have h1 : (flatK encE 3 l.toArray)[t]? = some (flatK encE 3 l.toArray)[t]! := by
      rw [getElem!_pos _ t (by simpa using h), Array.getElem?_eq_getElem (by simpa using h)]
    rw [h1, get_flatK _ _ _ _ (by simpa using h), List.getElem?_toArray, flat_at l t h]
    simp
  · rw [Array.getElem?_eq_none (by simp; omega), List.getElem?_toArray, List.getElem?_eq_none (by rw [flat_len]; omega)]
theorem holdsE {W : World} {g : Nat} {cur : Array Value} {t : TypeId} {l : List E3} (hb : W.heap[g]? = some (.cells cur t (0, 0))) (ht : cur.toList.take (l.length * 3) = flat l) : HoldsK encE 3 W g 0 l.toArray := by
  unfold HoldsK
  rw [flatK_flat]
  intro j hj
  have hj' : j < (flat l).length := by simpa using hj
  have hj2 := hj'
  rw [flat_len] at hj2
  refine ⟨?_, by simp [World.frozen?, hb]⟩
  rw [cell_of_row W g (0 + j) cur t (0, 0) hb, Nat.zero_add, ← Array.getElem?_toList]
  have h1 : (cur.toList.take (l.length * 3))[j]? = (flat l)[j]? := by rw [ht]
  rw [List.getElem?_take_of_lt hj2] at h1
  rw [h1, List.getElem?_eq_getElem hj']
  simp [hj']
theorem heap_sortK {w : World} {g n : Nat} {os : Array Obj} {cur : Array Value} {e : TypeId} {fr : Nat × Nat} (l : List E3) (hb : w.heap[g]? = some (.cells cur e fr)) :
    (sortWorldK encE 3 w g 0 n l.toArray os).heap[g]? = some (.cells (putCells id 0 (flat l).toArray cur) e fr) := by
  have hg : g < w.heap.size := (Array.getElem?_eq_some_iff.1 hb).1
  unfold sortWorldK putRowK
  rw [flatK_flat, heap_grow_old _ _ (by simpa using hg)]
  simp [putRow, mapBlock, Sort.ahead, Array.getElem?_modify, hb, onCells]
theorem grown_sortK {w : World} {g n : Nat} {os : Array Obj} (d : Array E3) : w.grownBy (sortWorldK encE 3 w g 0 n d os) (some g) := by
  refine ⟨rfl, rfl, rfl, by simp [sortWorldK, putRowK], fun k hk hne => ?_⟩
  unfold sortWorldK putRowK
  rw [heap_grow_old _ _ (by simpa using hk)]
  have : g ≠ k := fun e => hne (by rw [e])
  simp [putRow, mapBlock, Sort.ahead, Array.getElem?_modify, this]
theorem take_put (cur : Array Value) (ts : List Value) (h : ts.length ≤ cur.size) : (putCells id 0 ts.toArray cur).toList.take ts.length = ts := by
  apply List.ext_getElem?
  intro j
  by_cases hj : j < ts.length
  · rw [List.getElem?_take_of_lt hj, Array.getElem?_toList]
    simp [putCells, hj, show j < cur.size by omega]
  · rw [List.getElem?_take_eq_none (by omega), List.getElem?_eq_none (by omega)]
theorem cmpLaysE (blk off size : Nat) (w : World) : CmpLays Tryz.prog 40 #[] encE 3 cfE blk off size w :=
  fun _ _ _ _ x y => (compare_any x.1 x.2.1 x.2.2 y.1 y.2.1 y.2.2 _).mono fun _ _ h => h
set_option maxHeartbeats 1000000 in
theorem sortf_own (l : List E3) (base : Nat) (v : Value) (W : World) (hrow : W.ownsRow base 41 3 v l.length (flat l)) (hl : l.length ≤ 1000000) :
    Calls Tryz.prog 70 #[v, .func (.func 40) #[] #[]] W fun e w' => e = .returned (.tuple #[]) ∧ w'.ownsRow base 41 3 v l.length (flat (l.mergeSort fun x y => !Gm.ltE y x)) ∧ W.grownBy w' v.ownBlock := by
  rcases hrow.2 with ⟨rfl, h0⟩ | ⟨g, cap, cur, rfl, hbase, hgb, r1, r2, r3, r4⟩
  · obtain rfl : l = [] := List.eq_nil_of_length_eq_zero h0
    refine (AnyF.slices_SortFunc_none { Tryz.sortE with } none 0 (.func (.func 40) #[] #[]) W).mono ?_
    rintro e w' ⟨rfl, rfl⟩
    exact ⟨rfl, by simpa using hrow, ⟨rfl, rfl, rfl, Nat.le_refl _, fun _ _ _ => rfl⟩⟩
  · have eg : ∀ args w, (callFunc 40 args).run Tryz.prog w = .ok (.enter 40 args) w := enters_of Tryz.func40 (by kernel_rfl) rfl
    have hcon := AnyQ.slices_SortFunc_total Tryz.sortE 3 Tryz.isAgg41 Tryz.sizeOf41 encE (fun _ => rfl) (fun x v hv => by simp [encE] at hv; rcases hv with rfl | rfl | rfl <;> rfl) cfE swoE 40 #[] g 0 cap l.toArray W eg (cmpLaysE g 0 _ W) (holdsE hgb r4) (Array.getElem?_eq_some_iff.1 hgb).1 (by simp; omega) (fun x y h1 h2 => by rw [cfE_lt] at h1 h2; exact Gm.ltE_one x y h1 h2)
    change Calls Tryz.prog 70 _ _ _ at hcon
    simp only [List.size_toArray] at hcon
    refine hcon.mono ?_
    rintro e w' ⟨rfl, n, os, rfl⟩
    have hs : (l.toArray.toList.mergeSort fun x y => !ltOf cfE y x) = l.mergeSort fun x y => !Gm.ltE y x := by
      simp only [cfE_lt]
    rw [hs]
    have hm : (l.mergeSort fun x y => !Gm.ltE y x).length = l.length := List.length_mergeSort _
    refine ⟨rfl, ⟨by rw [flat_len, hm], .inr ⟨g, cap, _, rfl, hbase, heap_sortK _ hgb, r1, r2, by simp [putCells, r3], ?_⟩⟩, grown_sortK _⟩
    have h2 := take_put cur (flat (l.mergeSort fun x y => !Gm.ltE y x)) (by rw [flat_len, hm, r3]; exact Nat.mul_le_mul_right _ r1)
    rw [flat_len, hm] at h2
    exact h2
end Go.Proofs.YtphjbbbnbmafnabGreatDoor.G

namespace Go.Proofs.YtphjbbbnbmafnabGreatDoor.G
open Go.RowKit Go.Shelf

attribute [local go_sem] Oper.semAt_some

theorem take_snoc {l : List E3} {k : Nat} {x : E3} (h : l[k]? = some x) : l.take (k + 1) = l.take k ++ [x] := by rw [List.take_add_one, h]; rfl
set_option maxRecDepth 100000 in
set_option maxHeartbeats 4000000 in
theorem values1_in (F : Fence) (n : Nat) (h7 : F.fn 71) (hro : F.round = none) (hn : 1 ≤ n) (l Bs n₀ g off cap : Nat) (zs : List E3) (hz : zs.length ≤ 1000000) (hb : g < n₀) (J Jx : List E3 → World → Prop)
    (W : World) (hn₀ : n₀ ≤ W.heap.size) (hJ : AbidesFrom W.heap.size J)
    (hY : ∀ pre x W, J pre W → pre.length < zs.length → YieldAt F (n - 1) Tryz.prog l #[.agg #[.int .i64 x.1, .int .i64 x.2.1, .int .i64 x.2.2]] W fun e W' =>
      (e = .returned (.bool true) ∧ J (pre ++ [x]) W' ∧ Below n₀ W W') ∨ (e = .returned (.bool false) ∧ Jx (pre ++ [x]) W'))
    (hBs : W.cell? ⟨Bs, 0, none⟩ = some (.slice (some ⟨g, off, none⟩) zs.length cap)) (hc : ∀ (j : Nat) (e : E3), zs[j]? = some e → W.cell? ⟨g, off + j * 3, none⟩ = some (.int .i64 e.1) ∧ W.cell? ⟨g, off + j * 3 + 1, none⟩ = some (.int .i64 e.2.1) ∧ W.cell? ⟨g, off + j * 3 + 2, none⟩ = some (.int .i64 e.2.2)) (h0 : J [] W) :
    CallsIn F n Tryz.prog 71 #[.func (.yield l) #[] #[], .pointer (some ⟨Bs, 0, none⟩)] W fun e W' => (∃ v, e = .returned v) ∧
      ((∃ ys, ys = zs ∧ J ys W') ∨ (∃ pre, (∃ k, pre = zs.take k) ∧ Jx pre W')) := by
  have HC : Hid _ := hc
  clear hc
  refine callsIn_of_wp Tryz.func71 rfl h7 ?_ hro
  simp only [Tryz.ntmps71, List.size_toArray, List.length_cons, List.length_nil, Nat.reduceAdd, Nat.reduceSub, Array.replicate_succ, Array.replicate_zero, List.push_toArray, List.append_toArray, List.nil_append, List.cons_append]
  gi_wp2
  gi_loopw [7] (fun i wr => ∃ k : Nat, k ≤ zs.length ∧ i = .int .i64 k ∧ J (zs.take k) wr ∧ Below n₀ W wr)
    (fun i _ => zs.length - (intOf i).toNat)
  case atStart => exact ⟨0, Nat.zero_le _, rfl, h0, Below.refl _ _⟩
  case round =>
    obtain ⟨k, hk, rfl, hJs, hnx⟩ := hrel
    by_cases hlt : k < zs.length
    · obtain ⟨x, hx⟩ : ∃ x, zs[k]? = some x := ⟨_, List.getElem?_eq_getElem hlt⟩
      obtain ⟨c0, c1, c2⟩ := HC.out k x hx
      have d0 := (hnx.cell (p := ⟨g, off + k * 3, none⟩) hb).trans c0
      have d1 := (hnx.cell (p := ⟨g, off + k * 3 + 1, none⟩) hb).trans c1
      have d2 := (hnx.cell (p := ⟨g, off + k * 3 + 2, none⟩) hb).trans c2
      have HT : Hid _ := take_snoc hx
      obtain ⟨x1, x2, x3⟩ := x
      simp only at d0 d1 d2
      have hns := hnx.size
      have hJ2 : J (zs.take k) (wr.alloc (.cells #[.int .i64 x1, .int .i64 x2, .int .i64 x3] 41)) := hJ _ wr _ none hJs (World.grownBy_alloc wr _ none) (fun r e => by cases e)
      obtain ⟨fn, tmps, assign, body, hy, hR⟩ := hY _ (x1, x2, x3) _ hJ2 (by simp; omega)
      clear c0 c1 c2 hx
      gi_wp2
      refine hR.mono ?_
      rintro e W3 (⟨rfl, hJ3, hk3⟩ | ⟨rfl, hJx3⟩)
      · gi_wp2
        go_roundw
        case rel => exact ⟨k + 1, by omega, by simp, by rw [HT.out]; exact hJ3, (hnx.alloc (by omega) _).trans hk3⟩
        case measure => simp [intOf]; omega
      · gi_wp2
        refine bodyPost_ret (results_none rfl _ _ _) rfl ?_
        exact ⟨⟨_, rfl⟩, .inr ⟨_, ⟨k + 1, HT.out.symm⟩, hJx3⟩⟩
    · obtain rfl : k = zs.length := by omega
      rw [List.take_length] at hJs
      gi_wp2
      go_end0
      exact ⟨⟨_, rfl⟩, .inl ⟨_, rfl, hJs⟩⟩
set_option maxRecDepth 100000 in
set_option maxHeartbeats 1000000 in
theorem values1_nil (F : Fence) (n : Nat) (h7 : F.fn 71) (hro : F.round = none) (l Bs cap : Nat) (a0 : Option Addr) (J : List E3 → World → Prop) (W : World) (hBs : W.cell? ⟨Bs, 0, none⟩ = some (.slice a0 0 cap)) (h0 : J [] W) :
    CallsIn F n Tryz.prog 71 #[.func (.yield l) #[] #[], .pointer (some ⟨Bs, 0, none⟩)] W fun e W' => (∃ v, e = .returned v) ∧ J [] W' := by
  refine callsIn_of_wp Tryz.func71 rfl h7 ?_ hro
  simp only [Tryz.ntmps71, List.size_toArray, List.length_cons, List.length_nil, Nat.reduceAdd, Nat.reduceSub, Array.replicate_succ, Array.replicate_zero, List.push_toArray, List.append_toArray, List.nil_append, List.cons_append]
  gi_wp2
  gi_loopw [7] (fun i wr => i = .int .i64 0 ∧ J [] wr) (fun _ _ => 0)
  case atStart => exact ⟨rfl, h0⟩
  case round =>
    obtain ⟨rfl, hJs⟩ := hrel
    gi_wp2
    go_end0
    exact ⟨⟨_, rfl⟩, hJs⟩
set_option maxHeartbeats 1000000 in
theorem values_in (F : Fence) (n : Nat) (h5 : F.fn 39) (hro : F.round = none) (a : Option Addr) (len cap : Nat) (w : World) :
    CallsIn F n Tryz.prog 39 #[.slice a len cap] w fun e w' => e = .returned (.func (.func 71) #[] #[.pointer (some ⟨w.heap.size, 0, none⟩)]) ∧ w' = w.alloc (.cells #[.slice a len cap] 27) := by
  refine callsIn_of_wp Tryz.func39 rfl h5 ?_ hro
  simp only [Tryz.ntmps39, List.size_toArray, List.length_cons, List.length_nil, Nat.reduceAdd, Nat.reduceSub, Array.replicate_succ, Array.replicate_zero, List.push_toArray, List.append_toArray, List.nil_append, List.cons_append]
  gi_wp2
  go_ret
  exact ⟨rfl, rfl⟩
theorem values_stops (F : Fence) (n : Nat) (h7 : F.fn 71) (hro : F.round = none) (hn : 1 ≤ n) (Bs n₀ : Nat) (v : Value) (zs : List E3) (hz : zs.length ≤ 1000000) (w : World) (hBs : Bs < w.heap.size) (hn₀ : n₀ ≤ w.heap.size)
    (hc : w.cell? ⟨Bs, 0, none⟩ = some v) (hI : EdgesAt w v zs) (hlow : ∀ a0 len cap, v = .slice (some a0) len cap → zs ≠ [] → a0.block < n₀) :
    SeqStopsK F n Tryz.prog 71 #[.pointer (some ⟨Bs, 0, none⟩)] (fun x : E3 => #[.agg #[.int .i64 x.1, .int .i64 x.2.1, .int .i64 x.2.2]]) (Below n₀) (fun ys => ys = zs) (fun pre => ∃ k, pre = zs.take k) zs.length w := fun l J Jx W hW hJ _ hY h0 => by
  have hc' := (hW.cell (p := ⟨Bs, 0, none⟩) hBs).trans hc
  obtain ⟨a0, cap, rfl, hcs⟩ := hI.below hW
  cases zs with
  | nil => exact (values1_nil F n h7 hro l Bs cap a0 J W hc' h0).mono fun e W' ⟨he, hj⟩ => ⟨he, .inl ⟨_, rfl, hj⟩⟩
  | cons z zs =>
    obtain ⟨g, off, rfl, _⟩ := hcs 0 z rfl
    refine values1_in F n h7 hro hn l Bs n₀ g off cap (z :: zs) hz (hlow _ _ _ rfl (by simp)) J Jx W (Nat.le_trans hn₀ hW.size) hJ hY hc' (fun j e hj => ?_) h0
    obtain ⟨g2, off2, e2, r⟩ := hcs j e hj
    cases e2
    exact r
end Go.Proofs.YtphjbbbnbmafnabGreatDoor.G

namespace Go.Proofs.YtphjbbbnbmafnabGreatDoor.G
open Go.RowKit Go.Shelf

attribute [local go_sem] Oper.semAt_some

theorem own_block3 {X Y : World} {row : Option Nat} {B : Nat} {cs : Array Value} {t : TypeId} (h : X.heap[B]? = some (.cells cs t (0, 0))) (hg : X.grownBy Y row) (hr : ∀ r, row = some r → ∃ o : Obj, X.heap[r]? = some o ∧ o.isCells = false) : Y.heap[B]? = some (.cells cs t (0, 0)) := by
  rw [hg.block B (Array.getElem?_eq_some_iff.1 h).1 (fun e => by
    obtain ⟨o, ho, hc⟩ := hr B e.symm
    rw [h] at ho; cases ho; cases hc)]
  exact h
theorem cells3 {W : World} {B : Nat} {a b c : Value} {t : TypeId} (h : W.heap[B]? = some (.cells #[a, b, c] t (0, 0))) : W.cell? ⟨B, 0, none⟩ = some a ∧ W.cell? ⟨B, 1, none⟩ = some b ∧ W.cell? ⟨B, 2, none⟩ = some c := by
  refine ⟨?_, ?_, ?_⟩
  · rw [cell_of_row W B 0 _ t (0, 0) h]; rfl
  · rw [cell_of_row W B 1 _ t (0, 0) h]; rfl
  · rw [cell_of_row W B 2 _ t (0, 0) h]; rfl
set_option maxRecDepth 100000 in
set_option maxHeartbeats 4000000 in
theorem appendSeq_in (F : Fence) (n : Nat) (h11 : F.fn 102) (h7 : F.fn 71) (hro : F.round = none) (hn : 4 ≤ n) (Bs : Nat) (v0 : Value) (zs : List E3) (hz : zs.length ≤ 1000000) (w : World) (hBs : Bs < w.heap.size)
    (hc : w.cell? ⟨Bs, 0, none⟩ = some v0) (hI : EdgesAt w v0 zs) (hlow : ∀ a0 len cap, v0 = .slice (some a0) len cap → zs ≠ [] → a0.block < w.heap.size) :
    CallsIn F n Tryz.prog 102 #[.slice none 0 0, .func (.func 71) #[] #[.pointer (some ⟨Bs, 0, none⟩)]] w fun e w' => ∃ v, e = .returned v ∧ w'.ownsRow w.heap.size 41 3 v zs.length (flat zs) ∧ Below w.heap.size w w' := by
  have h1 : 1 ≤ n := by omega
  obtain ⟨i0, hi, hz0, hz1, hz2⟩ := info_parts Tryz.infoE
  refine callsIn_of_wp_marks Tryz.func102 rfl h11 ?_ hro
  simp only [Tryz.ntmps102, List.size_toArray, List.length_cons, List.length_nil, Nat.reduceAdd, Nat.reduceSub, Array.replicate_succ, Array.replicate_zero, List.push_toArray, List.append_toArray, List.nil_append, List.cons_append]
  gi_wp2
  have bS := Boxed.new w 27 (.slice none 0 0)
  have hB0 : Below w.heap.size w (w.alloc (.cells #[.slice none 0 0] 27)) := below1 _ _
  refine wpIn_rangeFunc_ownH hro h1 (gf := 71) (lb := #[.pointer (some ⟨Bs, 0, none⟩)]) rfl h7 (enters_of Tryz.func71 (by kernel_rfl) rfl)
    (values_stops F (n - 1) h7 hro (by omega) Bs w.heap.size v0 zs hz _ (by simp; omega) (by simp) ((hB0.cell (p := ⟨Bs, 0, none⟩) hBs).trans hc) (hI.below hB0) hlow) belowK_t (belowK_b (by simp)) (Below.refl _ _) (fun _ => rfl)
    (fun pre W => (∃ v, Boxed W w.heap.size 27 v ∧ W.ownsRow w.heap.size 41 3 v pre.length (flat pre) ∧ True) ∧ Below w.heap.size w W)
    (fun _ _ _ => False)
    (OwnFrom.and (Own.from (holdsRow_own w.heap.size w.heap.size 27 41 3 (fun pre : List E3 => pre.length) (fun pre => flat pre) (fun _ _ => True)) _) (ownFrom_below (Nat.le_refl _) (by simp)))
    (fun _ _ _ _ _ hs _ _ => hs)
    ⟨⟨_, bS, World.ownsRow_nil _ _ _ _, trivial⟩, hB0⟩
    (fun x a' W => ∃ Bx, w.heap.size < Bx ∧ W.heap[Bx]? = some (.cells #[.int .i64 x.1, .int .i64 x.2.1, .int .i64 x.2.2] 41 (0, 0)) ∧ a' = { tmps := #[.slice none 0 0, .func (.func 71) #[] #[.pointer (some ⟨Bs, 0, none⟩)], .pointer (some ⟨w.heap.size, 0, none⟩), undef, .slice none 0 0, .pointer (some ⟨Bx, 0, none⟩), .func (.func 71) #[] #[.pointer (some ⟨Bs, 0, none⟩)], .agg #[.int .i64 x.1, .int .i64 x.2.1, .int .i64 x.2.2], undef, undef, undef, undef, undef], defers := [] })
    (fun x a' _ X Y row hs hg hr => by obtain ⟨Bx, h1, h2, h3⟩ := hs; exact ⟨Bx, h1, own_block3 h2 hg (fun r e => (hr r e).2), h3⟩)
    ?assign ?body ?done ?stop
  case assign =>
    rintro l pre x W K ⟨⟨v, bS1, hr1, _⟩, hB1⟩ hK
    gi_wp2
    exact hK _ _ ((KeepsOthers.alloc _ _).from _) ((Below.refl _ W).alloc hB1.size _) ⟨⟨v, bS1.alloc _, hr1.alloc _, trivial⟩, hB1.alloc hB1.size _⟩ ⟨W.heap.size, bS1.lt, heap_alloc_new W _, rfl⟩
  case body =>
    rintro l pre x a' W hl ⟨r, hr⟩ ⟨⟨v, bS1, hrow, _⟩, hB1⟩ ⟨Bx, hBx, bX, rfl⟩ hlt
    obtain ⟨x1, x2, x3⟩ := x
    simp only at bX
    obtain ⟨k0, k1, k2⟩ := cells3 bX
    have cS := bS1.cell
    have hsz := hB1.size
    simp only
    gi_wp2_with (gi_at_builtin; refine wpListIn_append_own _ rfl _ _ 27 rfl w.heap.size 41 i0 (.agg #[.int .i64 0, .int .i64 0, .int .i64 0]) 3 24 Tryz.underlying27 hi hz0 hz1 hz2 rfl (by decide) _ _ _ rfl (hrow.alloc _) ⟨W.heap.size, 0, none⟩ 1 1 [.int .i64 x1, .int .i64 x2, .int .i64 x3] rfl rfl (src3 _ _ _ _ _) (one3 _ _ _) (by unfold maxLen; omega) (by omega) (le_alloc3 hsz) ?_; intro v' w1 hown' hgrow _; obtain ⟨g', cap', rfl⟩ := ownsRow_succ hown'; obtain ⟨hv1, hv2, hr2, hk2, hb2⟩ := bS1.appended (by decide) hrow hB1.size (Nat.le_refl _) hown' hgrow; have hc1 := hv1.cell; have hf1 := hv1.frozen)
    refine ⟨hk2.from _, hb2, ⟨_, hv2, ?_, trivial⟩, hB1.trans hb2⟩
    rw [flat_snoc, List.length_append]
    exact hr2
  case done =>
    rintro D ys W hD rfl ⟨⟨v, bS1, hrow, _⟩, hB1⟩ hK
    have cS := bS1.cell
    gi_wp2
    refine ⟨by simp, .inl ⟨_, _, rfl, run_takeDeferred hK, ?_⟩⟩
    exact ⟨_, results_tmp rfl _ _ _, v, rfl, ownsRow_putObj hrow _ hK rfl, hB1.trans (belowK_b (w := w) (Nat.le_refl _) W D _ _ (by simp at hD; omega) hK rfl rfl)⟩
  case stop =>
    rintro D c pre W _ _ h _
    exact h.elim
end Go.Proofs.YtphjbbbnbmafnabGreatDoor.G

namespace Go.Proofs.YtphjbbbnbmafnabGreatDoor.G
open Go.RowKit

/-- a block of edges -/
def RowE (W : World) (g cap : Nat) (L : List E3) : Prop := ∃ cur, W.heap[g]? = some (.cells cur 41 (0, 0)) ∧ cur.size = cap * 3 ∧ cur.toList.take (L.length * 3) = flat L
theorem flat_three {l : List E3} {j : Nat} {e : E3} (h : l[j]? = some e) : (flat l)[j * 3]? = some (.int .i64 e.1) ∧ (flat l)[j * 3 + 1]? = some (.int .i64 e.2.1) ∧ (flat l)[j * 3 + 2]? = some (.int .i64 e.2.2) := by
  have hj : j < l.length := by
    rcases Nat.lt_or_ge j l.length with e' | e'
    · exact e'
    · rw [List.getElem?_eq_none e'] at h; cases h
  have he : l[j]! = e := by
    rw [getElem!_pos l j hj]
    rw [List.getElem?_eq_getElem hj] at h
    exact Option.some.inj h
  refine ⟨?_, ?_, ?_⟩
  · rw [flat_at l (j * 3) (by omega), show j * 3 / 3 = j by omega, show j * 3 % 3 = 0 by omega, he]; rfl
  · rw [flat_at l (j * 3 + 1) (by omega), show (j * 3 + 1) / 3 = j by omega, show (j * 3 + 1) % 3 = 1 by omega, he]; rfl
  · rw [flat_at l (j * 3 + 2) (by omega), show (j * 3 + 2) / 3 = j by omega, show (j * 3 + 2) % 3 = 2 by omega, he]; rfl
theorem take_snoc' {l : List E3} {k : Nat} {x : E3} (h : l[k]? = some x) : l.take (k + 1) = l.take k ++ [x] := by rw [List.take_add_one, h]; rfl
theorem len_of {l : List E3} {j : Nat} {e : E3} (h : l[j]? = some e) : j < l.length := by
  rcases Nat.lt_or_ge j l.length with e' | e'
  · exact e'
  · rw [List.getElem?_eq_none e'] at h; cases h
theorem RowE.cells {W : World} {g cap : Nat} {L : List E3} (h : RowE W g cap L) {j : Nat} {e : E3} (hj : L[j]? = some e) : W.cell? ⟨g, j * 3, none⟩ = some (.int .i64 e.1) ∧ W.cell? ⟨g, j * 3 + 1, none⟩ = some (.int .i64 e.2.1) ∧ W.cell? ⟨g, j * 3 + 2, none⟩ = some (.int .i64 e.2.2) := by
  obtain ⟨cur, hg, _, ht⟩ := h
  have hl := len_of hj
  obtain ⟨h0, h1, h2⟩ := flat_three hj
  rw [← ht] at h0 h1 h2
  rw [List.getElem?_take_of_lt (by omega), Array.getElem?_toList] at h0 h1 h2
  exact ⟨by rw [cell_of_row W g _ cur _ _ hg]; exact h0, by rw [cell_of_row W g _ cur _ _ hg]; exact h1, by rw [cell_of_row W g _ cur _ _ hg]; exact h2⟩
theorem RowE.frozen {W : World} {g cap : Nat} {L : List E3} (h : RowE W g cap L) (o : Nat) : W.frozen? ⟨g, o, none⟩ = false := by
  obtain ⟨cur, hg, _, _⟩ := h
  exact frozen_of_row W g o cur _ hg
theorem RowE.drewN {W : World} {g cap : Nat} {L : List E3} (h : RowE W g cap L) (q : Nat) : RowE (W.drewN q) g cap L := h
theorem flat_append (l m : List E3) : flat (l ++ m) = flat l ++ flat m := by unfold flat; rw [List.flatMap_append]
theorem flat_set : ∀ (l : List E3) (k : Nat) (x : E3), k < l.length → flat (l.set k x) = (((flat l).set (k * 3) (.int .i64 x.1)).set (k * 3 + 1) (.int .i64 x.2.1)).set (k * 3 + 2) (.int .i64 x.2.2)
  | [], _, _, h => by simp at h
  | e :: l, 0, x, _ => by rw [List.set_cons_zero, flat_cons, flat_cons]; rfl
  | e :: l, k + 1, x, h => by
    rw [List.set_cons_succ, flat_cons, flat_cons, flat_set l k x (by simpa using h)]
    rw [show (k + 1) * 3 = (encE e).length + k * 3 by simp [encE]; omega, show (encE e).length + k * 3 + 1 = (encE e).length + (k * 3 + 1) by omega, show (encE e).length + k * 3 + 2 = (encE e).length + (k * 3 + 2) by omega]
    rw [List.set_append_right _ _ (by omega), List.set_append_right _ _ (by omega), List.set_append_right _ _ (by omega)]
    simp
theorem RowE.put {W : World} {g cap : Nat} {L : List E3} (h : RowE W g cap L) {k : Nat} (x : E3) (hk : k < L.length) : RowE (((W.setCell ⟨g, k * 3, none⟩ (.int .i64 x.1)).setCell ⟨g, k * 3 + 1, none⟩ (.int .i64 x.2.1)).setCell ⟨g, k * 3 + 2, none⟩ (.int .i64 x.2.2)) g cap (L.set k x) := by
  obtain ⟨cur, hg, hs, ht⟩ := h
  have h1 := heap_setCell_same W g (k * 3) cur _ (.int .i64 x.1) hg
  have h2 := heap_setCell_same _ g (k * 3 + 1) _ _ (.int .i64 x.2.1) h1
  have h3 := heap_setCell_same _ g (k * 3 + 2) _ _ (.int .i64 x.2.2) h2
  refine ⟨_, h3, by simp [hs], ?_⟩
  rw [flat_set L k x hk, ← ht, List.length_set]
  simp only [Array.toList_setIfInBounds]
  rw [List.take_set, List.take_set, List.take_set]
theorem gb_trans {A B C : World} {r : Option Nat} (h : A.grownBy B r) (k : B.grownBy C r) : A.grownBy C r :=
  ⟨k.os.trans h.os, k.tape.trans h.tape, k.output.trans h.output, Nat.le_trans h.size k.size, fun i hi hr => (k.block i (Nat.lt_of_lt_of_le hi h.size) hr).trans (h.block i hi hr)⟩
theorem gb_set (W : World) (g o : Nat) (v : Value) : W.grownBy (W.setCell ⟨g, o, none⟩ v) (some g) :=
  ⟨rfl, rfl, rfl, by simp [World.setCell], fun k _ hk => heap_setCell_other _ _ _ _ (fun e => hk (by rw [e]))⟩
theorem gb_drewN (W : World) (q : Nat) (r : Option Nat) : W.grownBy (W.drewN q) r := ⟨rfl, rfl, rfl, Nat.le_refl _, fun _ _ _ => rfl⟩
theorem gb_row (W : World) (g : Nat) (cs : Array Value) : W.grownBy (W.setRow g cs) (some g) :=
  ⟨rfl, rfl, rfl, by simp, fun k _ hk => setRow_other _ _ _ _ (fun e => hk (by rw [e]))⟩
theorem clear_rows (W : World) (g o n c : Nat) (ty t : TypeId) (cur : Array Value) (hg : W.heap[g]? = some (.cells cur t (0, 0))) (hn : 0 < n) (hfit : o + n * 3 ≤ cur.size) :
    ∃ vs : List Value, vs.length = n * 3 ∧ (Builtin.clear_ #[27] ty #[.slice (some ⟨g, o, none⟩) n c]).run Tryz.prog W = .ok (.tuple #[]) (W.setRow g (cur.toList.take o ++ vs ++ cur.toList.drop (o + vs.length)).toArray) := by
  refine ⟨(Builtin.zeroCells #[.int .i64 0, .int .i64 0, .int .i64 0] n).toList, by simp [Builtin.zeroCells], ?_⟩
  have hl : (Builtin.zeroCells #[.int .i64 0, .int .i64 0, .int .i64 0] n).toList.length = n * 3 := by simp [Builtin.zeroCells]
  have hst := run_storeCells_at Tryz.prog g o t (Builtin.zeroCells #[.int .i64 0, .int .i64 0, .int .i64 0] n).toList 0 cur W hg (by rw [hl]; omega) (fun v hv => by
    simp only [Builtin.zeroCells, Array.toList_map, List.mem_map] at hv
    obtain ⟨i, _, rfl⟩ := hv
    have : i % 3 < 3 := Nat.mod_lt _ (by decide)
    rcases (show i % 3 = 0 ∨ i % 3 = 1 ∨ i % 3 = 2 by omega) with e | e | e <;> simp [e] <;> rfl)
  simp only [Nat.add_zero] at hst
  obtain ⟨m, rfl⟩ : ∃ m, n = m + 1 := ⟨n - 1, by omega⟩
  have hz : (zeroValue 41).run Tryz.prog W = .ok (.agg #[.int .i64 0, .int .i64 0, .int .i64 0]) W := Tryz.zeroValue41 W
  simp [Builtin.clear_, run_underlying Tryz.underlying27, hz, Value.cells, hst]
end Go.Proofs.YtphjbbbnbmafnabGreatDoor.G
