/-
  The program's order of edges (compareLabels, compare, by cmp.Compare and cmp.Or): -1, 0 or 1 as the edges lie; only new blocks are laid.
  slices.SortFunc over a row of edges of one's own, by the program's compare: the row then holds the edges in order; nothing else that was there is written.
-/
import Derived.Test.YtphjbbbnbmafnabGreatDoorEdges
import Derived.Test.YtphjbbbnbmafnabGreatDoorGMath
import Derived.Test.YtphjbbbnbmafnabGreatDoorShelf
import Derived.Shelf.SlSortCmp.NoneTotal
import Derived.Deep.RegionHeld
namespace Go.Proofs.YtphjbbbnbmafnabGreatDoor.G
open Go.RowKit Go.Shelf Go.Lib Go.Sort

/-- worlds that have come by new blocks and draws alone -/
def Gr (w w' : World) : Prop := ∃ q os, w' = grow (w.drewN q) os
theorem Gr.refl (w : World) : Gr w w := ⟨0, #[], by simp; rfl⟩
theorem Gr.alloc {w w' : World} (h : Gr w w') (o : Obj) : Gr w (w'.alloc o) := by
  obtain ⟨q, os, rfl⟩ := h
  exact ⟨q, os ++ #[o], by rw [alloc_eq_grow, grow_grow]⟩
theorem Gr.drew {w w' : World} (h : Gr w w') : Gr w w'.drew := by
  obtain ⟨q, os, rfl⟩ := h
  exact ⟨q + 1, os, rfl⟩
theorem cell_al {W : World} {p : Addr} {v : Value} {o : Obj} (h : W.cell? p = some v) : (W.alloc o).cell? p = some v := cell_kept (below1 W o) p v h
theorem cell_dr {W : World} {p : Addr} {v : Value} (h : W.cell? p = some v) : W.drew.cell? p = some v := h
/-- which of two edges is ahead -/
def orI (a b c : Int) : Int := if a ≠ 0 then a else if b ≠ 0 then b else c
def cfE (a b : E3) : Int := orI (compareInt a.1 b.1) (compareInt a.2.1 b.2.1) (compareInt a.2.2 b.2.2)
theorem cmpI (x y : Int) : (compareInt x y = -1 ∧ x < y) ∨ (compareInt x y = 0 ∧ x = y) ∨ (compareInt x y = 1 ∧ y < x) := by
  unfold compareInt
  by_cases h1 : x < y
  · left; simp [h1]
  · by_cases h2 : y < x
    · right; right; simp [h1, h2]
    · right; left; simp [h1, h2]; omega
theorem cfE_lt (a b : E3) : ltOf cfE a b = Gm.ltE a b := by
  unfold ltOf cfE orI Gm.ltE
  rcases cmpI a.1 b.1 with ⟨e1, h1⟩ | ⟨e1, h1⟩ | ⟨e1, h1⟩
  · rw [e1, if_neg (by omega : ¬ a.1 = b.1)]; simp [h1]
  · rw [e1, if_pos h1]
    rcases cmpI a.2.1 b.2.1 with ⟨e2, h2⟩ | ⟨e2, h2⟩ | ⟨e2, h2⟩
    · rw [e2, if_neg (by omega : ¬ a.2.1 = b.2.1)]; simp [h2]
    · rw [e2, if_pos h2]
      rcases cmpI a.2.2 b.2.2 with ⟨e3, h3⟩ | ⟨e3, h3⟩ | ⟨e3, h3⟩ <;> rw [e3] <;> simp <;> omega
    · rw [e2, if_neg (by omega : ¬ a.2.1 = b.2.1)]; simp; omega
  · rw [e1, if_neg (by omega : ¬ a.1 = b.1)]; simp; omega
theorem swoE : SWO (ltOf cfE) where
  irrefl x := by rw [cfE_lt]; exact Gm.ltE_irrefl x
  trans x y z h1 h2 := by rw [cfE_lt] at *; exact Gm.ltE_trans x y z h1 h2
  ntrans x y z h1 h2 := by rw [cfE_lt] at *; exact Gm.ltE_ntrans x y z h1 h2
set_option maxHeartbeats 1000000 in
theorem cmplab_any (f l t f' l' t' : Int) (w : World) :
    Calls Tryz.prog 49 #[.agg #[.int .i64 f, .int .i64 l, .int .i64 t], .agg #[.int .i64 f', .int .i64 l', .int .i64 t']] w fun e w' => e = .returned (.int .i64 (compareInt l l')) ∧ w' = (w.alloc (.cells #[.int .i64 f, .int .i64 l, .int .i64 t] 41)).alloc (.cells #[.int .i64 f', .int .i64 l', .int .i64 t'] 41) := by
  obtain ⟨k0, k1, k2, k3, k4, k5⟩ := two3 w (.int .i64 f) (.int .i64 l) (.int .i64 t) (.int .i64 f') (.int .i64 l') (.int .i64 t') 41
  have HC : ∀ W, Hid (Calls Tryz.prog 73 #[.int .i64 l, .int .i64 l'] W fun e w' => e = .returned (.int .i64 (compareInt l l')) ∧ w' = W) := fun W => Tryz.cmp_Compare_int l l' W
  go_enter Tryz.func49, Tryz.ntmps49
  go_wp2_with (go_at_call 73; refine (Calls.mono (HC _).out ?_); rintro e w' ⟨rfl, rfl⟩)
  go_ret
  exact ⟨rfl, rfl⟩
set_option maxHeartbeats 1000000 in
set_option maxRecDepth 100000 in
theorem or_any (a b c : Int) (g : Nat) (w : World) (h0 : w.cell? ⟨g, 0, none⟩ = some (.int .i64 a)) (h1 : w.cell? ⟨g, 1, none⟩ = some (.int .i64 b)) (h2 : w.cell? ⟨g, 2, none⟩ = some (.int .i64 c)) :
    Calls Tryz.prog 72 #[.slice (some ⟨g, 0, none⟩) 3 3] w fun e w' => e = .returned (.int .i64 (orI a b c)) ∧ w' = w := by
  have HC : Hid (∀ j : Nat, j < 3 → w.cell? ⟨g, j, none⟩ = some (.int .i64 ([a, b, c].getD j 0))) := (fun j hj => by
    match j, hj with
    | 0, _ => exact h0
    | 1, _ => exact h1
    | 2, _ => exact h2 : ∀ j : Nat, j < 3 → w.cell? ⟨g, j, none⟩ = some (.int .i64 ([a, b, c].getD j 0)))
  clear h0 h1 h2
  go_enter Tryz.func72, Tryz.ntmps72
  go_wp2
  go_loop [8] (fun si => ∃ i : Nat, i ≤ 3 ∧ si = .int .i64 (i : Int) ∧ Hid (∀ j < i, [a, b, c].getD j 0 = 0)) (fun si => 3 - (intOf si).toNat)
  case atStart => exact ⟨0, Nat.zero_le _, rfl, (fun j hj => absurd hj (Nat.not_lt_zero _) : ∀ j < 0, [a, b, c].getD j 0 = 0)⟩
  case round =>
    obtain ⟨i, hi, rfl, HI⟩ := hrel
    by_cases hlt : i < 3
    · have hc := HC.out i hlt
      obtain ⟨x, hx⟩ : ∃ x, [a, b, c].getD i 0 = x := ⟨_, rfl⟩
      rw [hx] at hc
      have HX : Hid _ := hx
      clear hx
      by_cases hz : x = 0
      · have hzb : (x != 0) = false := by simpa using hz
        have HZ : Hid _ := hz
        clear hz
        go_wp2
        go_round
        case rel => exact ⟨i + 1, by omega, by go_num, (fun j hj => by
          rcases Nat.lt_or_ge j i with h | h
          · exact HI.out j h
          · rw [show j = i by omega, HX.out, HZ.out] : ∀ j < i + 1, [a, b, c].getD j 0 = 0)⟩
        case measure => simp [intOf] <;> omega
      · have hzb : (x != 0) = true := by simpa using hz
        have HR : Hid (x = orI a b c) := (by
          unfold orI
          have h0 := HI.out
          match i, hlt, HX.out, h0 with
          | 0, _, e, _ => rw [show a = x from e, if_pos hz]
          | 1, _, e, h0 => rw [if_neg (by rw [show a = 0 from h0 0 (by decide)]; simp), show b = x from e, if_pos hz]
          | 2, _, e, h0 => rw [if_neg (by rw [show a = 0 from h0 0 (by decide)]; simp), if_neg (by rw [show b = 0 from h0 1 (by decide)]; simp), show c = x from e] : x = _)
        clear hz
        go_wp2
        go_ret
        exact ⟨ret1 (by rw [← HR.out]; rfl), rfl⟩
    · obtain rfl : i = 3 := by omega
      have HR : Hid (0 = orI a b c) := (by
        unfold orI
        have h0 := HI.out
        rw [if_neg (by rw [show a = 0 from h0 0 (by decide)]; simp), if_neg (by rw [show b = 0 from h0 1 (by decide)]; simp), show c = 0 from h0 2 (by decide)] : (0 : Int) = _)
      go_wp2
      go_ret
      exact ⟨ret1 (by rw [← HR.out]; rfl), rfl⟩
theorem or_call (a b c : Int) (W : World) (o1 o2 : Obj) : Calls Tryz.prog 72 #[.slice (some ⟨W.heap.size + 1 + 1, 0, none⟩) 3 3] (((W.alloc o1).alloc o2).alloc (.cells #[.int .i64 a, .int .i64 b, .int .i64 c] 3)).drew fun e w' => e = .returned (.int .i64 (orI a b c)) ∧ w' = (((W.alloc o1).alloc o2).alloc (.cells #[.int .i64 a, .int .i64 b, .int .i64 c] 3)).drew := by
  have e : W.heap.size + 1 + 1 = ((W.alloc o1).alloc o2).heap.size := by simp
  rw [e]
  generalize (W.alloc o1).alloc o2 = V
  exact or_any a b c V.heap.size _ (cell_dr (by simp)) (cell_dr (by simp)) (cell_dr (by simp))
set_option maxHeartbeats 8000000 in
set_option maxRecDepth 100000 in
theorem compare_any (f l t f' l' t' : Int) (w : World) :
    Calls Tryz.prog 40 #[.agg #[.int .i64 f, .int .i64 l, .int .i64 t], .agg #[.int .i64 f', .int .i64 l', .int .i64 t']] w fun e w' => e = .returned (.int .i64 (orI (compareInt f f') (compareInt l l') (compareInt t t'))) ∧ Gr w w' := by
  obtain ⟨k0, k1, k2, k3, k4, k5⟩ := two3 w (.int .i64 f) (.int .i64 l) (.int .i64 t) (.int .i64 f') (.int .i64 l') (.int .i64 t') 41
  have HG : Hid (Gr w ((w.alloc (.cells #[.int .i64 f, .int .i64 l, .int .i64 t] 41)).alloc (.cells #[.int .i64 f', .int .i64 l', .int .i64 t'] 41))) := ((Gr.refl w).alloc _).alloc _
  have HC1 : ∀ W, Hid (Calls Tryz.prog 73 #[.int .i64 f, .int .i64 f'] W fun e w' => e = .returned (.int .i64 (compareInt f f')) ∧ w' = W) := fun W => Tryz.cmp_Compare_int f f' W
  have HC3 : ∀ W, Hid (Calls Tryz.prog 73 #[.int .i64 t, .int .i64 t'] W fun e w' => e = .returned (.int .i64 (compareInt t t')) ∧ w' = W) := fun W => Tryz.cmp_Compare_int t t' W
  have HC2 : ∀ W, Hid (Calls Tryz.prog 49 #[.agg #[.int .i64 f, .int .i64 l, .int .i64 t], .agg #[.int .i64 f', .int .i64 l', .int .i64 t']] W fun e w' => e = .returned (.int .i64 (compareInt l l')) ∧ w' = (W.alloc (.cells #[.int .i64 f, .int .i64 l, .int .i64 t] 41)).alloc (.cells #[.int .i64 f', .int .i64 l', .int .i64 t'] 41)) := fun W => cmplab_any f l t f' l' t' W
  generalize compareInt f f' = c1 at HC1 ⊢
  generalize compareInt l l' = c2 at HC2 ⊢
  generalize compareInt t t' = c3 at HC3 ⊢
  go_enter Tryz.func40, Tryz.ntmps40
  go_wp2_with fail
  generalize hW : (w.alloc (.cells #[.int .i64 f, .int .i64 l, .int .i64 t] 41)).alloc (.cells #[.int .i64 f', .int .i64 l', .int .i64 t'] 41) = W at k0 k1 k2 k3 k4 k5 HG ⊢
  clear hW
  go_region_held (fun w' => w'.cell? ⟨w.heap.size, 0, none⟩ = some (.int .i64 f) ∧ w'.cell? ⟨w.heap.size, 1, none⟩ = some (.int .i64 l) ∧ w'.cell? ⟨w.heap.size, 2, none⟩ = some (.int .i64 t) ∧ w'.cell? ⟨w.heap.size + 1, 0, none⟩ = some (.int .i64 f') ∧ w'.cell? ⟨w.heap.size + 1, 1, none⟩ = some (.int .i64 l') ∧ w'.cell? ⟨w.heap.size + 1, 2, none⟩ = some (.int .i64 t')) (refine ⟨?_, ?_, ?_, ?_, ?_, ?_⟩ <;> (repeat (first | assumption | apply cell_dr | apply cell_al)))
    (first
      | (go_at_call_of 73 (Value.int IntKind.i64 f); refine (Calls.mono (HC1 _).out ?_); rintro e w' ⟨rfl, rfl⟩)
      | (go_at_call_of 73 (Value.int IntKind.i64 t); refine (Calls.mono (HC3 _).out ?_); rintro e w' ⟨rfl, rfl⟩)
      | (go_at_call 49; refine (Calls.mono (HC2 _).out ?_); rintro e w' ⟨rfl, rfl⟩)
      | (go_at_call 72; refine (or_call c1 c2 c3 _ _ _).mono ?_; rintro e w' ⟨rfl, rfl⟩))
  go_wp2
  go_ret
  exact ⟨rfl, ((((HG.out).alloc _).alloc _).alloc _).drew⟩
end Go.Proofs.YtphjbbbnbmafnabGreatDoor.G

namespace Go.Proofs.YtphjbbbnbmafnabGreatDoor.G
open Go.RowKit Go.Shelf Go.Lib Go.Sort

def encE (x : E3) : List Value := [.int .i64 x.1, .int .i64 x.2.1, .int .i64 x.2.2]
theorem flat_cons (e : E3) (l : List E3) : flat (e :: l) = encE e ++ flat l := by unfold flat encE; rw [List.flatMap_cons]
theorem flat_at : ∀ (l : List E3) (t : Nat), t < l.length * 3 → (flat l)[t]? = some ((encE l[t / 3]!)[t % 3]!)
  | [], t, h => by simp at h
  | e :: l, t, h => by
    rw [flat_cons]
    by_cases ht : t < 3
    · rw [List.getElem?_append_left (by simpa [encE] using ht)]
      match t, ht with
      | 0, _ => rfl
      | 1, _ => rfl
      | 2, _ => rfl
    · rw [List.getElem?_append_right (by simp [encE]; omega)]
      have ih := flat_at l (t - 3) (by simp at h; omega)
      rw [show (encE e).length = 3 from rfl, ih, show t / 3 = (t - 3) / 3 + 1 by omega, show (t - 3) % 3 = t % 3 by omega]
      simp
theorem flatK_flat (l : List E3) : flatK encE 3 l.toArray = (flat l).toArray := by
  apply Array.ext_getElem?
  intro t
  by_cases h : t < l.length * 3
  · have h1 : (flatK encE 3 l.toArray)[t]? = some (flatK encE 3 l.toArray)[t]! := by
      rw [getElem!_pos _ t (by simpa using h), Array.getElem?_eq_getElem (by simpa using h)]
    rw [h1, get_flatK _ _ _ _ (by simpa using h), List.getElem?_toArray, flat_at l t h]
    simp
  · rw [Array.getElem?_eq_none (by simp; omega), List.getElem?_toArray, List.getElem?_eq_none (by rw [flat_len]; omega)]
theorem holdsE {W : World} {g : Nat} {cur : Array Value} {t : TypeId} {l : List E3} (hb : W.heap[g]? = some (.cells cur t (0, 0))) (ht : cur.toList.take (l.length * 3) = flat l) : HoldsK encE 3 W g 0 l.toArray := by
  unfold HoldsK
  rw [flatK_flat]
  intro j hj
  have hj' : j < (flat l).length := by simpa using hj
  have hj2 := hj'
  rw [flat_len] at hj2
  refine ⟨?_, by simp [World.frozen?, hb]⟩
  rw [cell_of_row W g (0 + j) cur t (0, 0) hb, Nat.zero_add, ← Array.getElem?_toList]
  have h1 : (cur.toList.take (l.length * 3))[j]? = (flat l)[j]? := by rw [ht]
  rw [List.getElem?_take_of_lt hj2] at h1
  rw [h1, List.getElem?_eq_getElem hj']
  simp [hj']
theorem heap_sortK {w : World} {g n : Nat} {os : Array Obj} {cur : Array Value} {e : TypeId} {fr : Nat × Nat} (l : List E3) (hb : w.heap[g]? = some (.cells cur e fr)) :
    (sortWorldK encE 3 w g 0 n l.toArray os).heap[g]? = some (.cells (putCells id 0 (flat l).toArray cur) e fr) := by
  have hg : g < w.heap.size := (Array.getElem?_eq_some_iff.1 hb).1
  unfold sortWorldK putRowK
  rw [flatK_flat, heap_grow_old _ _ (by simpa using hg)]
  simp [putRow, mapBlock, Sort.ahead, Array.getElem?_modify, hb, onCells]
theorem grown_sortK {w : World} {g n : Nat} {os : Array Obj} (d : Array E3) : w.grownBy (sortWorldK encE 3 w g 0 n d os) (some g) := by
  refine ⟨rfl, rfl, rfl, by simp [sortWorldK, putRowK], fun k hk hne => ?_⟩
  unfold sortWorldK putRowK
  rw [heap_grow_old _ _ (by simpa using hk)]
  have : g ≠ k := fun e => hne (by rw [e])
  simp [putRow, mapBlock, Sort.ahead, Array.getElem?_modify, this]
theorem take_put (cur : Array Value) (ts : List Value) (h : ts.length ≤ cur.size) : (putCells id 0 ts.toArray cur).toList.take ts.length = ts := by
  apply List.ext_getElem?
  intro j
  by_cases hj : j < ts.length
  · rw [List.getElem?_take_of_lt hj, Array.getElem?_toList]
    simp [putCells, hj, show j < cur.size by omega]
  · rw [List.getElem?_take_eq_none (by omega), List.getElem?_eq_none (by omega)]
theorem cmpLaysE (blk off size : Nat) (w : World) : CmpLays Tryz.prog 40 #[] encE 3 cfE blk off size w :=
  fun _ _ _ _ x y => (compare_any x.1 x.2.1 x.2.2 y.1 y.2.1 y.2.2 _).mono fun _ _ h => h
set_option maxHeartbeats 1000000 in
theorem sortf_own (l : List E3) (base : Nat) (v : Value) (W : World) (hrow : W.ownsRow base 41 3 v l.length (flat l)) (hl : l.length ≤ 1000000) :
    Calls Tryz.prog 70 #[v, .func (.func 40) #[] #[]] W fun e w' => e = .returned (.tuple #[]) ∧ w'.ownsRow base 41 3 v l.length (flat (l.mergeSort fun x y => !Gm.ltE y x)) ∧ W.grownBy w' v.ownBlock := by
  rcases hrow.2 with ⟨rfl, h0⟩ | ⟨g, cap, cur, rfl, hbase, hgb, r1, r2, r3, r4⟩
  · obtain rfl : l = [] := List.eq_nil_of_length_eq_zero h0
    refine (AnyF.slices_SortFunc_none { Tryz.sortE with } none 0 (.func (.func 40) #[] #[]) W).mono ?_
    rintro e w' ⟨rfl, rfl⟩
    exact ⟨rfl, by simpa using hrow, ⟨rfl, rfl, rfl, Nat.le_refl _, fun _ _ _ => rfl⟩⟩
  · have eg : ∀ args w, (callFunc 40 args).run Tryz.prog w = .ok (.enter 40 args) w := enters_of Tryz.func40 (by kernel_rfl) rfl
    have hcon := AnyQ.slices_SortFunc_total Tryz.sortE 3 Tryz.isAgg41 Tryz.sizeOf41 encE (fun _ => rfl) (fun x v hv => by simp [encE] at hv; rcases hv with rfl | rfl | rfl <;> rfl) cfE swoE 40 #[] g 0 cap l.toArray W eg (cmpLaysE g 0 _ W) (holdsE hgb r4) (Array.getElem?_eq_some_iff.1 hgb).1 (by simp; omega) (fun x y h1 h2 => by rw [cfE_lt] at h1 h2; exact Gm.ltE_one x y h1 h2)
    change Calls Tryz.prog 70 _ _ _ at hcon
    simp only [List.size_toArray] at hcon
    refine hcon.mono ?_
    rintro e w' ⟨rfl, n, os, rfl⟩
    have hs : (l.toArray.toList.mergeSort fun x y => !ltOf cfE y x) = l.mergeSort fun x y => !Gm.ltE y x := by
      simp only [cfE_lt]
    rw [hs]
    have hm : (l.mergeSort fun x y => !Gm.ltE y x).length = l.length := List.length_mergeSort _
    refine ⟨rfl, ⟨by rw [flat_len, hm], .inr ⟨g, cap, _, rfl, hbase, heap_sortK _ hgb, r1, r2, by simp [putCells, r3], ?_⟩⟩, grown_sortK _⟩
    have h2 := take_put cur (flat (l.mergeSort fun x y => !Gm.ltE y x)) (by rw [flat_len, hm, r3]; exact Nat.mul_le_mul_right _ r1)
    rw [flat_len, hm] at h2
    exact h2
end Go.Proofs.YtphjbbbnbmafnabGreatDoor.G
