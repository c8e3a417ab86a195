/-
  The program's order of edges (compareLabels, compare, by cmp.Compare and cmp.Or): -1, 0 or 1 as the edges lie; only new blocks are laid.
-/
import Derived.Test.YtphjbbbnbmafnaaEdges
import Derived.Test.YtphjbbbnbmafnaaGMath
import Derived.Test.YtphjbbbnbmafnaaShelf
import Derived.Shelf.SlSortCmp.NoneTotal
import Derived.Deep.RegionHeld
namespace Go.Proofs.Ytphjbbbnbmafnaa.G
open Go.RowKit Go.Shelf Go.Lib Go.Sort

/-- worlds that have come by new blocks and draws alone -/
def Gr (w w' : World) : Prop := ∃ q os, w' = grow (w.drewN q) os
theorem Gr.refl (w : World) : Gr w w := ⟨0, #[], by simp; rfl⟩
theorem Gr.alloc {w w' : World} (h : Gr w w') (o : Obj) : Gr w (w'.alloc o) := by
  obtain ⟨q, os, rfl⟩ := h
  exact ⟨q, os ++ #[o], by rw [alloc_eq_grow, grow_grow]⟩
theorem Gr.drew {w w' : World} (h : Gr w w') : Gr w w'.drew := by
  obtain ⟨q, os, rfl⟩ := h
  exact ⟨q + 1, os, rfl⟩
theorem cell_al {W : World} {p : Addr} {v : Value} {o : Obj} (h : W.cell? p = some v) : (W.alloc o).cell? p = some v := cell_kept (below1 W o) p v h
theorem cell_dr {W : World} {p : Addr} {v : Value} (h : W.cell? p = some v) : W.drew.cell? p = some v := h
/-- which of two edges is ahead -/
def orI (a b c : Int) : Int := if a ≠ 0 then a else if b ≠ 0 then b else c
def cfE (a b : E3) : Int := orI (compareInt a.1 b.1) (compareInt a.2.1 b.2.1) (compareInt a.2.2 b.2.2)
theorem cmpI (x y : Int) : (compareInt x y = -1 ∧ x < y) ∨ (compareInt x y = 0 ∧ x = y) ∨ (compareInt x y = 1 ∧ y < x) := by
  unfold compareInt
  by_cases h1 : x < y
  · left; simp [h1]
  · by_cases h2 : y < x
    · right; right; simp [h1, h2]
    · right; left; simp [h1, h2]; omega
theorem cfE_lt (a b : E3) : ltOf cfE a b = Gm.ltE a b := by
  unfold ltOf cfE orI Gm.ltE
  rcases cmpI a.1 b.1 with ⟨e1, h1⟩ | ⟨e1, h1⟩ | ⟨e1, h1⟩
  · rw [e1, if_neg (by omega : ¬ a.1 = b.1)]; simp [h1]
  · rw [e1, if_pos h1]
    rcases cmpI a.2.1 b.2.1 with ⟨e2, h2⟩ | ⟨e2, h2⟩ | ⟨e2, h2⟩
    · rw [e2, if_neg (by omega : ¬ a.2.1 = b.2.1)]; simp [h2]
    · rw [e2, if_pos h2]
      rcases cmpI a.2.2 b.2.2 with ⟨e3, h3⟩ | ⟨e3, h3⟩ | ⟨e3, h3⟩ <;> rw [e3] <;> simp <;> omega
    · rw [e2, if_neg (by omega : ¬ a.2.1 = b.2.1)]; simp; omega
  · rw [e1, if_neg (by omega : ¬ a.1 = b.1)]; simp; omega
theorem swoE : SWO (ltOf cfE) where
  irrefl x := by rw [cfE_lt]; exact Gm.ltE_irrefl x
  trans x y z h1 h2 := by rw [cfE_lt] at *; exact Gm.ltE_trans x y z h1 h2
  ntrans x y z h1 h2 := by rw [cfE_lt] at *; exact Gm.ltE_ntrans x y z h1 h2
set_option maxHeartbeats 1000000 in
theorem cmplab_any (f l t f' l' t' : Int) (w : World) :
    Calls Try.prog 109 #[.agg #[.int .i64 f, .int .i64 l, .int .i64 t], .agg #[.int .i64 f', .int .i64 l', .int .i64 t']] w fun e w' => e = .returned (.int .i64 (compareInt l l')) ∧ w' = (w.alloc (.cells #[.int .i64 f, .int .i64 l, .int .i64 t] 112)).alloc (.cells #[.int .i64 f', .int .i64 l', .int .i64 t'] 112) := by
  obtain ⟨k0, k1, k2, k3, k4, k5⟩ := two3 w (.int .i64 f) (.int .i64 l) (.int .i64 t) (.int .i64 f') (.int .i64 l') (.int .i64 t') 112
  have HC : ∀ W, Hid (Calls Try.prog 125 #[.int .i64 l, .int .i64 l'] W fun e w' => e = .returned (.int .i64 (compareInt l l')) ∧ w' = W) := fun W => Try.cmp_Compare_int l l' W
  go_enter Try.func109, Try.ntmps109
  go_wp2_with (go_at_call 125; refine (Calls.mono (HC _).out ?_); rintro e w' ⟨rfl, rfl⟩)
  go_ret
  exact ⟨rfl, rfl⟩
set_option maxHeartbeats 1000000 in
set_option maxRecDepth 100000 in
theorem or_any (a b c : Int) (g : Nat) (w : World) (h0 : w.cell? ⟨g, 0, none⟩ = some (.int .i64 a)) (h1 : w.cell? ⟨g, 1, none⟩ = some (.int .i64 b)) (h2 : w.cell? ⟨g, 2, none⟩ = some (.int .i64 c)) :
    Calls Try.prog 124 #[.slice (some ⟨g, 0, none⟩) 3 3] w fun e w' => e = .returned (.int .i64 (orI a b c)) ∧ w' = w := by
  have HC : Hid (∀ j : Nat, j < 3 → w.cell? ⟨g, j, none⟩ = some (.int .i64 ([a, b, c].getD j 0))) := (fun j hj => by
    match j, hj with
    | 0, _ => exact h0
    | 1, _ => exact h1
    | 2, _ => exact h2 : ∀ j : Nat, j < 3 → w.cell? ⟨g, j, none⟩ = some (.int .i64 ([a, b, c].getD j 0)))
  clear h0 h1 h2
  go_enter Try.func124, Try.ntmps124
  go_wp2
  go_loop [8] (fun si => ∃ i : Nat, i ≤ 3 ∧ si = .int .i64 (i : Int) ∧ Hid (∀ j < i, [a, b, c].getD j 0 = 0)) (fun si => 3 - (intOf si).toNat)
  case atStart => exact ⟨0, Nat.zero_le _, rfl, (fun j hj => absurd hj (Nat.not_lt_zero _) : ∀ j < 0, [a, b, c].getD j 0 = 0)⟩
  case round =>
    obtain ⟨i, hi, rfl, HI⟩ := hrel
    by_cases hlt : i < 3
    · have hc := HC.out i hlt
      obtain ⟨x, hx⟩ : ∃ x, [a, b, c].getD i 0 = x := ⟨_, rfl⟩
      rw [hx] at hc
      have HX : Hid _ := hx
      clear hx
      by_cases hz : x = 0
      · have hzb : (x != 0) = false := by simpa using hz
        have HZ : Hid _ := hz
        clear hz
        go_wp2
        go_round
        case rel => exact ⟨i + 1, by omega, by go_num, (fun j hj => by
          rcases Nat.lt_or_ge j i with h | h
          · exact HI.out j h
          · rw [show j = i by omega, HX.out, HZ.out] : ∀ j < i + 1, [a, b, c].getD j 0 = 0)⟩
        case measure => simp [intOf] <;> omega
      · have hzb : (x != 0) = true := by simpa using hz
        have HR : Hid (x = orI a b c) := (by
          unfold orI
          have h0 := HI.out
          match i, hlt, HX.out, h0 with
          | 0, _, e, _ => rw [show a = x from e, if_pos hz]
          | 1, _, e, h0 => rw [if_neg (by rw [show a = 0 from h0 0 (by decide)]; simp), show b = x from e, if_pos hz]
          | 2, _, e, h0 => rw [if_neg (by rw [show a = 0 from h0 0 (by decide)]; simp), if_neg (by rw [show b = 0 from h0 1 (by decide)]; simp), show c = x from e] : x = _)
        clear hz
        go_wp2
        go_ret
        exact ⟨ret1 (by rw [← HR.out]; rfl), rfl⟩
    · obtain rfl : i = 3 := by omega
      have HR : Hid (0 = orI a b c) := (by
        unfold orI
        have h0 := HI.out
        rw [if_neg (by rw [show a = 0 from h0 0 (by decide)]; simp), if_neg (by rw [show b = 0 from h0 1 (by decide)]; simp), show c = 0 from h0 2 (by decide)] : (0 : Int) = _)
      go_wp2
      go_ret
      exact ⟨ret1 (by rw [← HR.out]; rfl), rfl⟩
theorem or_call (a b c : Int) (W : World) (o1 o2 : Obj) : Calls Try.prog 124 #[.slice (some ⟨W.heap.size + 1 + 1, 0, none⟩) 3 3] (((W.alloc o1).alloc o2).alloc (.cells #[.int .i64 a, .int .i64 b, .int .i64 c] 3)).drew fun e w' => e = .returned (.int .i64 (orI a b c)) ∧ w' = (((W.alloc o1).alloc o2).alloc (.cells #[.int .i64 a, .int .i64 b, .int .i64 c] 3)).drew := by
  have e : W.heap.size + 1 + 1 = ((W.alloc o1).alloc o2).heap.size := by simp
  rw [e]
  generalize (W.alloc o1).alloc o2 = V
  exact or_any a b c V.heap.size _ (cell_dr (by simp)) (cell_dr (by simp)) (cell_dr (by simp))
set_option maxHeartbeats 8000000 in
set_option maxRecDepth 100000 in
theorem compare_any (f l t f' l' t' : Int) (w : World) :
    Calls Try.prog 102 #[.agg #[.int .i64 f, .int .i64 l, .int .i64 t], .agg #[.int .i64 f', .int .i64 l', .int .i64 t']] w fun e w' => e = .returned (.int .i64 (orI (compareInt f f') (compareInt l l') (compareInt t t'))) ∧ Gr w w' := by
  obtain ⟨k0, k1, k2, k3, k4, k5⟩ := two3 w (.int .i64 f) (.int .i64 l) (.int .i64 t) (.int .i64 f') (.int .i64 l') (.int .i64 t') 112
  have HG : Hid (Gr w ((w.alloc (.cells #[.int .i64 f, .int .i64 l, .int .i64 t] 112)).alloc (.cells #[.int .i64 f', .int .i64 l', .int .i64 t'] 112))) := ((Gr.refl w).alloc _).alloc _
  have HC1 : ∀ W, Hid (Calls Try.prog 125 #[.int .i64 f, .int .i64 f'] W fun e w' => e = .returned (.int .i64 (compareInt f f')) ∧ w' = W) := fun W => Try.cmp_Compare_int f f' W
  have HC3 : ∀ W, Hid (Calls Try.prog 125 #[.int .i64 t, .int .i64 t'] W fun e w' => e = .returned (.int .i64 (compareInt t t')) ∧ w' = W) := fun W => Try.cmp_Compare_int t t' W
  have HC2 : ∀ W, Hid (Calls Try.prog 109 #[.agg #[.int .i64 f, .int .i64 l, .int .i64 t], .agg #[.int .i64 f', .int .i64 l', .int .i64 t']] W fun e w' => e = .returned (.int .i64 (compareInt l l')) ∧ w' = (W.alloc (.cells #[.int .i64 f, .int .i64 l, .int .i64 t] 112)).alloc (.cells #[.int .i64 f', .int .i64 l', .int .i64 t'] 112)) := fun W => cmplab_any f l t f' l' t' W
  generalize compareInt f f' = c1 at HC1 ⊢
  generalize compareInt l l' = c2 at HC2 ⊢
  generalize compareInt t t' = c3 at HC3 ⊢
  go_enter Try.func102, Try.ntmps102
  go_wp2_with fail
  generalize hW : (w.alloc (.cells #[.int .i64 f, .int .i64 l, .int .i64 t] 112)).alloc (.cells #[.int .i64 f', .int .i64 l', .int .i64 t'] 112) = W at k0 k1 k2 k3 k4 k5 HG ⊢
  clear hW
  go_region_held (fun w' => w'.cell? ⟨w.heap.size, 0, none⟩ = some (.int .i64 f) ∧ w'.cell? ⟨w.heap.size, 1, none⟩ = some (.int .i64 l) ∧ w'.cell? ⟨w.heap.size, 2, none⟩ = some (.int .i64 t) ∧ w'.cell? ⟨w.heap.size + 1, 0, none⟩ = some (.int .i64 f') ∧ w'.cell? ⟨w.heap.size + 1, 1, none⟩ = some (.int .i64 l') ∧ w'.cell? ⟨w.heap.size + 1, 2, none⟩ = some (.int .i64 t')) (refine ⟨?_, ?_, ?_, ?_, ?_, ?_⟩ <;> (repeat (first | assumption | apply cell_dr | apply cell_al)))
    (first
      | (go_at_call_of 125 (Value.int IntKind.i64 f); refine (Calls.mono (HC1 _).out ?_); rintro e w' ⟨rfl, rfl⟩)
      | (go_at_call_of 125 (Value.int IntKind.i64 t); refine (Calls.mono (HC3 _).out ?_); rintro e w' ⟨rfl, rfl⟩)
      | (go_at_call 109; refine (Calls.mono (HC2 _).out ?_); rintro e w' ⟨rfl, rfl⟩)
      | (go_at_call 124; refine (or_call c1 c2 c3 _ _ _).mono ?_; rintro e w' ⟨rfl, rfl⟩))
  go_wp2
  go_ret
  exact ⟨rfl, ((((HG.out).alloc _).alloc _).alloc _).drew⟩
end Go.Proofs.Ytphjbbbnbmafnaa.G
