/-
  The places of a set, one behind the other (expr.Set.places, its iterator).
  All places that may take the label behind one of a set (Expr.Behind): the sets behind them, together; new memory; nothing that was there is written.
  One place alone (expr.only); the reader's next byte (take); Expr.Taking and Expr.IsText.
-/
import Derived.Test.YtphjbbbnbmafnabGreatDoorXPl
import Derived.Test.YtphjbbbnbmafnabGreatDoorRxF
import Derived.RangeFuncNested
import Derived.RangeFuncBox
import Derived.RangeFuncBound
import Derived.RangeFuncCalls
import Derived.RangeFuncLeaves
import Derived.Shelf.Abstract
import Derived.Shelf.RegionOpen
import Derived.OwnWalkIn
import Derived.TacticsInMore
import Derived.LoopNIn
import Derived.LoopIn
import Derived.Stop.RegionWithIn
import Derived.Test.YtphjbbbnbmafnabGreatDoorXQl
namespace Go.Proofs.YtphjbbbnbmafnabGreatDoor.G
open Go.RowKit Go.Shelf Go.Proofs.YtphjbbbnbmafnabGreatDoor.RxM

attribute [local go_sem] Oper.semAt_some
def wd (a b c d : Nat) (i : Nat) : Nat := [a, b, c, d].getD i 0
theorem wd_lt {a b c d : Nat} (ha : a < 18446744073709551616) (hb : b < 18446744073709551616) (hc : c < 18446744073709551616) (hd : d < 18446744073709551616) (i : Nat) : wd a b c d i < 18446744073709551616 := by
  unfold wd
  match i with
  | 0 => exact ha
  | 1 => exact hb
  | 2 => exact hc
  | 3 => exact hd
  | i + 4 => simp
/-- the places of the first words -/
def plTo (a b c d i : Nat) : List Nat := placesW ([a, b, c, d].take i) 0
theorem placesW_app : ∀ (V U : List Nat) (i : Nat), placesW (V ++ U) i = placesW V i ++ placesW U (i + V.length)
  | [], U, i => rfl
  | v :: V, U, i => by
    rw [List.cons_append, placesW, placesW, placesW_app V U (i + 1), List.append_assoc, List.length_cons, Nat.add_right_comm, ← Nat.add_assoc]
theorem plTo_step (a b c d i : Nat) (hi : i < 4) : plTo a b c d (i + 1) = plTo a b c d i ++ (bl (wd a b c d i)).map (64 * i + ·) := by
  have h : [a, b, c, d][i]? = some (wd a b c d i) := by
    unfold wd
    rw [List.getD_eq_getElem?_getD, List.getElem?_eq_getElem (by simpa using hi)]
    rfl
  unfold plTo
  rw [List.take_add_one, h, Option.toList_some, placesW_app, List.length_take]
  simp only [placesW, List.append_nil, Nat.zero_add, List.length_cons, List.length_nil]
  rw [Nat.min_eq_left (by omega)]
theorem plTo_pre (a b c d i : Nat) : ∃ R, plTo a b c d 4 = plTo a b c d i ++ R := by
  refine ⟨placesW ([a, b, c, d].drop i) (0 + ([a, b, c, d].take i).length), ?_⟩
  unfold plTo
  rw [← placesW_app, List.take_append_drop]
  rfl
theorem plTo_one (a b c d i : Nat) (hi : i < 4) (y : Nat) (hy : wd a b c d i = y) (dn : List Nat) (k : Nat) (r : List Nat) (h : bl y = dn ++ k :: r) : (64 * i + k) ∈ plTo a b c d 4 ∧ (plTo a b c d i ++ dn.map (64 * i + ·)).length < (plTo a b c d 4).length := by
  obtain ⟨R, hR⟩ := plTo_pre a b c d (i + 1)
  rw [plTo_step a b c d i hi, hy, h, List.map_append, List.map_cons] at hR
  rw [hR]
  refine ⟨by simp, by simp⟩
theorem and_pred_lt (x : Nat) (h : x ≠ 0) : x &&& (x - 1) < x := Nat.lt_of_le_of_lt Nat.and_le_right (by omega)
set_option maxRecDepth 100000 in
set_option maxHeartbeats 4000000 in
theorem places1_in (n l Bs n₀ a b c d : Nat) (ha : a < 18446744073709551616) (hb : b < 18446744073709551616) (hc : c < 18446744073709551616) (hd : d < 18446744073709551616) (J Jx : List Nat → World → Prop)
    (W : World) (h0n : 0 < n₀) (hT : TzAt W)
    (hY : ∀ pre (x : Nat) W, J pre W → x ∈ plTo a b c d 4 → pre.length < (plTo a b c d 4).length → YieldAt Fence.wide (n - 1) Tryz.prog l #[.int .i64 (x : Int)] W fun e W' =>
      (e = .returned (.bool true) ∧ J (pre ++ [x]) W' ∧ Below n₀ W W') ∨ (e = .returned (.bool false) ∧ Jx (pre ++ [x]) W'))
    (c0 : W.cell? ⟨Bs, 0, none⟩ = some (.int .u64 (a : Int))) (c1 : W.cell? ⟨Bs, 1, none⟩ = some (.int .u64 (b : Int))) (c2 : W.cell? ⟨Bs, 2, none⟩ = some (.int .u64 (c : Int))) (c3 : W.cell? ⟨Bs, 3, none⟩ = some (.int .u64 (d : Int))) (h0 : J [] W) :
    CallsIn Fence.wide n Tryz.prog 130 #[.func (.yield l) #[] #[], .pointer (some ⟨Bs, 0, none⟩)] W fun e W' => (∃ v, e = .returned v) ∧
      ((∃ ys, ys = plTo a b c d 4 ∧ J ys W') ∨ (∃ pre, Jx pre W')) := by
  have hidx : ∀ i : Nat, i < 4 → ∀ w, (Instr.index 114 (.agg #[.int .u64 (a : Int), .int .u64 (b : Int), .int .u64 (c : Int), .int .u64 (d : Int)]) (.int .i64 (i : Int))).run Tryz.prog w = .ok (.int .u64 (wd a b c d i : Int)) w := fun i hi => by
    rcases (show i = 0 ∨ i = 1 ∨ i = 2 ∨ i = 3 by omega) with rfl | rfl | rfl | rfl <;> exact fun _ => by kernel_rfl
  have HId : Hid _ := hidx
  have HT : Hid _ := hT
  have HY : Hid _ := hY
  have Hw : Hid _ := wd_lt ha hb hc hd
  clear hidx hT hY ha hb hc hd
  refine callsIn_of_wp Tryz.func130 rfl trivial ?_ rfl
  simp only [Tryz.ntmps130, List.size_toArray, List.length_cons, List.length_nil, Nat.reduceAdd, Nat.reduceSub, Array.replicate_succ, Array.replicate_zero, List.push_toArray, List.append_toArray, List.nil_append, List.cons_append]
  gi_wp2
  gi_loopw [6] (fun si wr => ∃ i : Nat, i ≤ 4 ∧ si = .int .i64 (i : Int) ∧ Hid (J (plTo a b c d i) wr ∧ Below n₀ W wr)) (fun si _ => 4 - (intOf si).toNat)
  case atStart => exact ⟨0, Nat.zero_le _, rfl, ⟨h0, Below.refl _ _⟩⟩
  case round =>
    obtain ⟨i, hi, rfl, HI⟩ := hrel
    by_cases hlt : i < 4
    · have hx := HId.out i hlt
      have hiI : (i : Int) < 4 := by omega
      have hw := Hw.out i
      have HSt : Hid _ := plTo_step a b c d i hlt
      have HOne : Hid _ := plTo_one a b c d i hlt
      obtain ⟨y, hyw⟩ : ∃ y, wd a b c d i = y := ⟨_, rfl⟩
      rw [hyw] at hx hw HSt
      have HYw : Hid _ := hyw
      clear hyw
      gi_wp2
      gi_loopw [4] (fun s4 wr => ∃ (x : Nat) (dn : List Nat), x < 18446744073709551616 ∧ s4 = .int .u64 (x : Int) ∧ Hid (bl y = dn ++ bl x ∧ J (plTo a b c d i ++ dn.map (64 * i + ·)) wr ∧ Below n₀ W wr)) (fun s4 _ => (intOf s4).toNat)
      case atStart => exact ⟨y, [], hw, rfl, ⟨rfl, by simpa using HI.out.1, HI.out.2⟩⟩
      case round =>
        obtain ⟨x, dn, hxl, rfl, HI2⟩ := hrel
        by_cases hx0 : x = 0
        · subst hx0
          have HD : Hid (J (plTo a b c d (i + 1)) wr ∧ Below n₀ W wr) := (by
            obtain ⟨e1, e2, e3⟩ := HI2.out
            rw [bl_zero, List.append_nil] at e1
            rw [HSt.out, e1]
            exact ⟨e2, e3⟩ : _ ∧ _)
          rw [show ((0 : Nat) : Int) = 0 from rfl]
          gi_wp2
          go_roundw
          case rel => exact ⟨i + 1, by omega, by simp, HD.out⟩
          case measure => simp [intOf]; omega
        · have hxI : ¬ (x : Int) = 0 := by omega
          obtain ⟨m, hm, hk⟩ := ctz_form x hx0 hxl
          have hbl := bl_low x _ m hm hk
          have HTz : Hid (CallsIn Fence.wide (n - 1) Tryz.prog 131 #[.int .u64 (x : Int)] wr _) := (callsIn_wide.2 (tz_any x hx0 hxl wr (fun j hj => (HI2.out.2.2.cell (p := ⟨0, j, none⟩) h0n).trans (HT.out j hj))) : CallsIn _ _ _ _ _ _ _)
          generalize Lib.ctz 64 x = k at hbl HTz hk
          have e1 : IntKind.u64.wrap ((x : Int) - 1) = ((x - 1 : Nat) : Int) := by rw [IntKind.wrap_u64]; omega
          have e2 := u64_and_nat x (x - 1) hxl (by omega)
          have hlt2 : x &&& (x - 1) < x := and_pred_lt x hx0
          obtain ⟨v, hv⟩ : ∃ v : Nat, v = 64 * i + k := ⟨_, rfl⟩
          obtain ⟨fn, tmps, assign, body, hy, hR⟩ := HY.out _ v wr HI2.out.2.1 (by rw [hv]; exact (HOne.out y HYw.out dn k _ (by rw [HI2.out.1, hbl])).1) (HOne.out y HYw.out dn k _ (by rw [HI2.out.1, hbl])).2
          have HN : Hid (bl y = (dn ++ [k]) ++ bl (x &&& (x - 1)) ∧ plTo a b c d i ++ dn.map (64 * i + ·) ++ [v] = plTo a b c d i ++ (dn ++ [k]).map (64 * i + ·)) := (⟨by rw [HI2.out.1, hbl, List.append_assoc]; rfl, by rw [hv, List.map_append, List.append_assoc]; rfl⟩ : _ ∧ _)
          have HB2 : Hid _ := HI2.out.2.2

          have em : (i : Int) * 64 + (k : Int) = (v : Int) := by omega
          clear hbl hm HI2 hv
          generalize x &&& (x - 1) = x' at e2 hlt2 HN
          gi_wp2_with fail
          refine ⟨trivial, (fun h => by cases h), HTz.out.mono ?_⟩
          rintro e w1 ⟨rfl, hw1⟩
          rw [hw1]
          clear hw1 w1
          gi_wp2
          refine ⟨(fun h => by cases h), hR.mono ?_⟩
          rintro e W3 (⟨rfl, hJ3, hk3⟩ | ⟨rfl, hJx3⟩)
          · have HN2 : Hid _ := (⟨HN.out.1, by rw [← HN.out.2]; exact hJ3, HB2.out.trans hk3⟩ : bl y = (dn ++ [k]) ++ bl x' ∧ J (plTo a b c d i ++ (dn ++ [k]).map (64 * i + ·)) W3 ∧ Below n₀ W W3)
            clear hJ3 hk3
            gi_wp2
            go_roundw
            case rel => exact ⟨x', dn ++ [k], by omega, rfl, HN2.out⟩
            case measure => simp [intOf]; omega
          · gi_wp2
            refine bodyPost_ret (results_none rfl _ _ _) rfl ?_
            exact ⟨⟨_, rfl⟩, .inr ⟨_, hJx3⟩⟩
    · obtain rfl : i = 4 := by omega
      gi_wp2
      go_end0
      exact ⟨⟨_, rfl⟩, .inl ⟨_, rfl, HI.out.1⟩⟩
/-- the iterator, to whoever ranges over it: each place of the set, once -/
theorem places_stops (n Bs n₀ a b c d : Nat) (ha : a < 18446744073709551616) (hb : b < 18446744073709551616) (hc : c < 18446744073709551616) (hd : d < 18446744073709551616) (w : World) (h0n : 0 < n₀) (hT : TzAt w)
    (hrow : w.heap[Bs]? = some (.cells #[.int .u64 (a : Int), .int .u64 (b : Int), .int .u64 (c : Int), .int .u64 (d : Int)] 114 (0, 0))) :
    SeqStopsK Fence.wide n Tryz.prog 130 #[.pointer (some ⟨Bs, 0, none⟩)] (fun x : { x : Nat // x ∈ plTo a b c d 4 } => #[.int .i64 (x.1 : Int)]) (Below n₀) (fun ys => ys.map (·.1) = plTo a b c d 4) (fun _ => True) (plTo a b c d 4).length w := fun l J Jx W hW _ _ hY h0 => by
  obtain ⟨⟨c0, c1, c2, c3⟩, _⟩ := row4 hrow
  refine (places1_in n l Bs n₀ a b c d ha hb hc hd (fun pre W => ∃ pre', pre'.map (·.1) = pre ∧ J pre' W) (fun pre W => ∃ pre', pre'.map (·.1) = pre ∧ Jx pre' W) W h0n (hT.below hW) (fun pre x W1 hp hx hl => ?_) (cell_kept hW _ _ c0) (cell_kept hW _ _ c1) (cell_kept hW _ _ c2) (cell_kept hW _ _ c3) ⟨[], rfl, h0⟩).mono ?_
  · obtain ⟨pre', rfl, hj⟩ := hp
    rw [List.length_map] at hl
    obtain ⟨fn, tmps, assign, body, hy, hR⟩ := hY pre' ⟨x, hx⟩ W1 hj hl
    refine ⟨fn, tmps, assign, body, hy, hR.mono ?_⟩
    rintro e W' (⟨rfl, h1, h2⟩ | ⟨rfl, h1⟩)
    · exact .inl ⟨rfl, ⟨_, by rw [List.map_append]; rfl, h1⟩, h2⟩
    · exact .inr ⟨rfl, _, by rw [List.map_append]; rfl, h1⟩
  · rintro e W' ⟨h1, ⟨ys, rfl, pre', h2, h3⟩ | ⟨pre, pre', _, h3⟩⟩
    · exact ⟨h1, .inl ⟨pre', h2, h3⟩⟩
    · exact ⟨h1, .inr ⟨pre', trivial, h3⟩⟩
end Go.Proofs.YtphjbbbnbmafnabGreatDoor.G

namespace Go.Proofs.YtphjbbbnbmafnabGreatDoor.G
open Go.RowKit Go.Shelf Go.Proofs.YtphjbbbnbmafnabGreatDoor.RxM

attribute [local go_sem] Oper.semAt_some
/-- a set in four words -/
abbrev S4 := Nat × Nat × Nat × Nat
def ok4 (s : S4) : Prop := s.1 < 18446744073709551616 ∧ s.2.1 < 18446744073709551616 ∧ s.2.2.1 < 18446744073709551616 ∧ s.2.2.2 < 18446744073709551616
def v4 (s : S4) : Array Value := #[.int .u64 (s.1 : Int), .int .u64 (s.2.1 : Int), .int .u64 (s.2.2.1 : Int), .int .u64 (s.2.2.2 : Int)]
def or4 (s t : S4) : S4 := (s.1 ||| t.1, s.2.1 ||| t.2.1, s.2.2.1 ||| t.2.2.1, s.2.2.2 ||| t.2.2.2)
theorem or_lt64 {a b : Nat} (ha : a < 18446744073709551616) (hb : b < 18446744073709551616) : a ||| b < 18446744073709551616 := Nat.or_lt_two_pow (n := 64) ha hb
theorem ok4_or {s t : S4} (h : ok4 s) (k : ok4 t) : ok4 (or4 s t) := ⟨or_lt64 h.1 k.1, or_lt64 h.2.1 k.2.1, or_lt64 h.2.2.1 k.2.2.1, or_lt64 h.2.2.2 k.2.2.2⟩
/-- the sets at places, together -/
def orAll (ss : List S4) (ps : List Nat) : S4 := ps.foldl (fun acc p => or4 acc (ss.getD p (0, 0, 0, 0))) (0, 0, 0, 0)
theorem orAll_snoc (ss : List S4) (ps : List Nat) (p : Nat) : orAll ss (ps ++ [p]) = or4 (orAll ss ps) (ss.getD p (0, 0, 0, 0)) := by unfold orAll; rw [List.foldl_append]; rfl
theorem ok4_getD {ss : List S4} (h : ∀ s ∈ ss, ok4 s) (p : Nat) : ok4 (ss.getD p (0, 0, 0, 0)) := by
  rw [List.getD_eq_getElem?_getD]
  cases e : ss[p]? with
  | none => exact ⟨by decide, by decide, by decide, by decide⟩
  | some s => exact h s (List.mem_of_getElem? e)
theorem ok4_all {ss : List S4} (h : ∀ s ∈ ss, ok4 s) (ps : List Nat) : ok4 (orAll ss ps) := by
  unfold orAll
  have : ∀ (ps : List Nat) (acc : S4), ok4 acc → ok4 (ps.foldl (fun acc p => or4 acc (ss.getD p (0, 0, 0, 0))) acc) := by
    intro ps
    induction ps with
    | nil => intro acc ha; exact ha
    | cons p ps ih => intro acc ha; exact ih _ (ok4_or ha (ok4_getD h p))
  exact this ps _ ⟨by decide, by decide, by decide, by decide⟩
/-- the sets behind places, as they lie -/
def BehAt (w : World) (X : Nat) (ss : List S4) : Prop := ∃ g off cap, w.cell? ⟨X, 0, none⟩ = some (.slice (some ⟨g, off, none⟩) ss.length cap) ∧ ∀ j s, ss[j]? = some s → w.cell? ⟨g, off + j * 4, none⟩ = some (.int .u64 (s.1 : Int)) ∧ w.cell? ⟨g, off + j * 4 + 1, none⟩ = some (.int .u64 (s.2.1 : Int)) ∧ w.cell? ⟨g, off + j * 4 + 2, none⟩ = some (.int .u64 (s.2.2.1 : Int)) ∧ w.cell? ⟨g, off + j * 4 + 3, none⟩ = some (.int .u64 (s.2.2.2 : Int))
theorem BehAt.below {w w' : World} {X : Nat} {ss : List S4} (h : BehAt w X ss) (hB : Below w.heap.size w w') : BehAt w' X ss := by
  obtain ⟨g, off, cap, h1, h2⟩ := h
  refine ⟨g, off, cap, cell_kept hB _ _ h1, fun j s hs => ?_⟩
  obtain ⟨a, b, c, d⟩ := h2 j s hs
  exact ⟨cell_kept hB _ _ a, cell_kept hB _ _ b, cell_kept hB _ _ c, cell_kept hB _ _ d⟩
set_option maxHeartbeats 1000000 in
theorem places_any (s : S4) (w : World) : Calls Tryz.prog 109 #[.agg (v4 s)] w fun e w' => e = .returned (.func (.func 130) #[] #[.pointer (some ⟨w.heap.size, 0, none⟩)]) ∧ w' = w.alloc (.cells (v4 s) 114) := by
  obtain ⟨a, b, c, d⟩ := s
  simp only [v4]
  go_enter Tryz.func109, Tryz.ntmps109
  go_wp2
  go_ret
  exact ⟨rfl, rfl⟩
theorem keepsFrom_below {B : Nat} {W W' : World} (h : Below W.heap.size W W') : KeepsFrom B W W' := ⟨h.size, fun k _ _ hk _ => (h.block k (Array.getElem?_eq_some_iff.1 hk).1).trans hk⟩
theorem own_row {X Y : World} {row : Option Nat} {B : Nat} {cs : Array Value} {t : TypeId} (h : X.heap[B]? = some (.cells cs t (0, 0))) (hg : X.grownBy Y row) (hr : ∀ r, row = some r → ∃ o : Obj, X.heap[r]? = some o ∧ o.isCells = false) : Y.heap[B]? = some (.cells cs t (0, 0)) := by
  rw [hg.block B (Array.getElem?_eq_some_iff.1 h).1 (fun e => by
    obtain ⟨o, ho, hc⟩ := hr B e.symm
    rw [h] at ho; cases ho; cases hc)]
  exact h
theorem set4 {W : World} {B : Nat} {t : TypeId} {a b c d : Value} (h : W.heap[B]? = some (.cells #[a, b, c, d] t (0, 0))) (x0 x1 x2 x3 : Value) : ((((W.setCell ⟨B, 0, none⟩ x0).setCell ⟨B, 1, none⟩ x1).setCell ⟨B, 2, none⟩ x2).setCell ⟨B, 3, none⟩ x3).heap[B]? = some (.cells #[x0, x1, x2, x3] t (0, 0)) :=
  xset_row _ B 3 _ _ _ x3 (xset_row _ B 2 _ _ _ x2 (xset_row _ B 1 _ _ _ x1 (xset_row W B 0 _ _ _ x0 h)))
theorem set4_other {W : World} {B X : Nat} {y : Obj} (h : W.heap[X]? = some y) (hne : X ≠ B) (x0 x1 x2 x3 : Value) : ((((W.setCell ⟨B, 0, none⟩ x0).setCell ⟨B, 1, none⟩ x1).setCell ⟨B, 2, none⟩ x2).setCell ⟨B, 3, none⟩ x3).heap[X]? = some y :=
  xset_other _ B 3 X x3 (xset_other _ B 2 X x2 (xset_other _ B 1 X x1 (xset_other W B 0 X x0 h hne) hne) hne) hne
theorem set4_below {n : Nat} {A W : World} {B : Nat} (h : Below n A W) (hB : n ≤ B) (x0 x1 x2 x3 : Value) : Below n A ((((W.setCell ⟨B, 0, none⟩ x0).setCell ⟨B, 1, none⟩ x1).setCell ⟨B, 2, none⟩ x2).setCell ⟨B, 3, none⟩ x3) :=
  (((h.setCell (p := ⟨B, 0, none⟩) hB x0).setCell (p := ⟨B, 1, none⟩) hB x1).setCell (p := ⟨B, 2, none⟩) hB x2).setCell (p := ⟨B, 3, none⟩) hB x3
theorem set4_keeps (n : Nat) (W : World) (B : Nat) (x0 x1 x2 x3 : Value) : KeepsFrom n W ((((W.setCell ⟨B, 0, none⟩ x0).setCell ⟨B, 1, none⟩ x1).setCell ⟨B, 2, none⟩ x2).setCell ⟨B, 3, none⟩ x3) :=
  ((((KeepsOthers.setCell W _ _).trans (KeepsOthers.setCell _ _ _)).trans (KeepsOthers.setCell _ _ _)).trans (KeepsOthers.setCell _ _ _)).from n
set_option maxRecDepth 100000 in
set_option maxHeartbeats 8000000 in
theorem behind_in (X : Nat) (ss : List S4) (hss : ∀ s ∈ ss, ok4 s) (s : S4) (hs : ok4 s) (w : World) (hX : BehAt w X ss) (hin : ∀ p ∈ plTo s.1 s.2.1 s.2.2.1 s.2.2.2 4, p < ss.length) (hT : TzAt w) (h0w : 0 < w.heap.size) :
    CallsIn Fence.wide 9 Tryz.prog 89 #[.pointer (some ⟨X, 0, none⟩), .agg (v4 s)] w fun e w' => e = .returned (.agg (v4 (orAll ss (plTo s.1 s.2.1 s.2.2.1 s.2.2.2 4)))) ∧ Below w.heap.size w w' := by
  obtain ⟨a, b, c, d⟩ := s
  simp only [v4] at hin ⊢
  obtain ⟨ha, hb, hc, hd⟩ := hs
  simp only at ha hb hc hd
  have HPl : Hid (∀ W, CallsIn Fence.wide 8 Tryz.prog 109 #[.agg #[.int .u64 (a : Int), .int .u64 (b : Int), .int .u64 (c : Int), .int .u64 (d : Int)]] W _) := (fun W => callsIn_wide.2 (places_any (a, b, c, d) W) : ∀ W, _)
  have HX : Hid _ := hX
  have HT : Hid _ := hT
  refine callsIn_of_wp_marks Tryz.func89 rfl trivial ?_ rfl
  simp only [Tryz.ntmps89, List.size_toArray, List.length_cons, List.length_nil, Nat.reduceAdd, Nat.reduceSub, Array.replicate_succ, Array.replicate_zero, List.push_toArray, List.append_toArray, List.nil_append, List.cons_append]
  gi_wp2_with fail
  obtain ⟨W4, hW4⟩ : ∃ W4, W4 = (((w.alloc (.cells #[.pointer (some ⟨X, 0, none⟩)] 62)).alloc (.cells #[.int .u64 (a : Int), .int .u64 (b : Int), .int .u64 (c : Int), .int .u64 (d : Int)] 114)).alloc (.cells #[.int .u64 0, .int .u64 0, .int .u64 0, .int .u64 0] 114)).alloc (.cells #[.int .u64 0, .int .u64 0, .int .u64 0, .int .u64 0] 114) := ⟨_, rfl⟩
  rw [← hW4]
  have hs4 : W4.heap.size = w.heap.size + 1 + 1 + 1 + 1 := by rw [hW4]; simp
  have hJ : Below w.heap.size w W4 := by rw [hW4]; exact xal (xal (xal (below1 _ _)))
  have r2 : W4.heap[w.heap.size]? = some (.cells #[.pointer (some ⟨X, 0, none⟩)] 62 (0, 0)) := by rw [hW4]; exact heap_keep (below1 _ _) (heap_keep (below1 _ _) (heap_keep (below1 _ _) (heap_alloc_new w _)))
  have r4 : W4.heap[w.heap.size + 1 + 1]? = some (.cells #[.int .u64 0, .int .u64 0, .int .u64 0, .int .u64 0] 114 (0, 0)) := by
    rw [hW4]
    refine heap_keep (below1 _ _) ?_
    have := heap_alloc_new ((w.alloc (.cells #[.pointer (some ⟨X, 0, none⟩)] 62)).alloc (.cells #[.int .u64 (a : Int), .int .u64 (b : Int), .int .u64 (c : Int), .int .u64 (d : Int)] 114)) (.cells #[.int .u64 0, .int .u64 0, .int .u64 0, .int .u64 0] 114)
    rwa [World.size_alloc, World.size_alloc] at this
  have r5 : W4.heap[w.heap.size + 1 + 1 + 1]? = some (.cells #[.int .u64 0, .int .u64 0, .int .u64 0, .int .u64 0] 114 (0, 0)) := by
    rw [hW4]
    have := heap_alloc_new (((w.alloc (.cells #[.pointer (some ⟨X, 0, none⟩)] 62)).alloc (.cells #[.int .u64 (a : Int), .int .u64 (b : Int), .int .u64 (c : Int), .int .u64 (d : Int)] 114)).alloc (.cells #[.int .u64 0, .int .u64 0, .int .u64 0, .int .u64 0] 114)) (.cells #[.int .u64 0, .int .u64 0, .int .u64 0, .int .u64 0] 114)
    rwa [World.size_alloc, World.size_alloc, World.size_alloc] at this
  have HW4 : Hid _ := hW4
  clear hW4
  refine ⟨trivial, (HPl.out W4).mono ?_⟩
  rintro e W5 ⟨rfl, hW5⟩
  have hJ5 : Below W4.heap.size W4 W5 := by rw [hW5]; exact below1 _ _
  have r8 : W5.heap[w.heap.size + 1 + 1 + 1 + 1]? = some (.cells #[.int .u64 (a : Int), .int .u64 (b : Int), .int .u64 (c : Int), .int .u64 (d : Int)] 114 (0, 0)) := by rw [hW5, ← hs4]; exact heap_alloc_new W4 _
  have hB5 := chain hJ hJ5
  have q2 := heap_keep hJ5 r2
  have q4 := heap_keep hJ5 r4
  have q5 := heap_keep hJ5 r5
  have hs5 : w.heap.size + 1 + 1 + 1 + 1 ≤ W5.heap.size := by have := hJ5.size; omega
  rw [hs4]
  clear hW5 hJ hJ5 r2 r4 r5 HPl
  gi_wp2
  refine wpIn_rangeFunc_ownH rfl (by decide) (gf := 130) (lb := #[.pointer (some ⟨w.heap.size + 1 + 1 + 1 + 1, 0, none⟩)]) rfl trivial (enters_of Tryz.func130 (by kernel_rfl) rfl)
    (places_stops 8 (w.heap.size + 1 + 1 + 1 + 1) w.heap.size a b c d ha hb hc hd W5 h0w (hT.below hB5) r8) belowK_t (belowK_b (by omega)) (Below.refl _ _) (fun _ => rfl)
    (fun pre W => W.heap[w.heap.size + 1 + 1 + 1]? = some (.cells (v4 (orAll ss (pre.map (·.1)))) 114 (0, 0)) ∧ W.heap[w.heap.size]? = some (.cells #[.pointer (some ⟨X, 0, none⟩)] 62 (0, 0)) ∧ W.heap[w.heap.size + 1 + 1]? = some (.cells #[.int .u64 0, .int .u64 0, .int .u64 0, .int .u64 0] 114 (0, 0)) ∧ Below w.heap.size w W)
    (fun _ _ _ => False)
    (fun _ W W' row ⟨h1, h2, h3, h4⟩ hg hr => ⟨own_row h1 hg (fun r e => (hr r e).2), own_row h2 hg (fun r e => (hr r e).2), own_row h3 hg (fun r e => (hr r e).2), h4.grown hg h4.size (fun r e => by have := (hr r e).1; omega)⟩)
    (fun _ _ _ _ _ hs _ _ => hs)
    ⟨q5, q2, q4, hB5⟩
    (fun x a' _ => a' = { tmps := #[.pointer (some ⟨X, 0, none⟩), .agg #[.int .u64 (a : Int), .int .u64 (b : Int), .int .u64 (c : Int), .int .u64 (d : Int)], .pointer (some ⟨w.heap.size, 0, none⟩), .pointer (some ⟨w.heap.size + 1, 0, none⟩), .pointer (some ⟨w.heap.size + 1 + 1, 0, none⟩), .pointer (some ⟨w.heap.size + 1 + 1 + 1, 0, none⟩), .int .i64 (x.1 : Int), .agg #[.int .u64 (a : Int), .int .u64 (b : Int), .int .u64 (c : Int), .int .u64 (d : Int)], .func (.func 130) #[] #[.pointer (some ⟨w.heap.size + 1 + 1 + 1 + 1, 0, none⟩)], .int .i64 (x.1 : Int), undef, undef, undef, undef, undef, undef, undef, undef, undef, undef], defers := [] })
    (fun _ _ _ _ _ _ hs _ _ => hs)
    ?assign ?body ?done ?stop
  case assign =>
    rintro l pre x W K hI hK
    gi_wp2
    exact hK _ _ (KeepsFrom.refl _ _) (Below.refl _ _) hI rfl
  case body =>
    rintro l pre ⟨x, hx⟩ a' W hl ⟨r, hr⟩ ⟨i5, i2, i4, iB⟩ rfl hlt
    have hxl := hin x hx
    obtain ⟨g, off, cap, hsl2, hset⟩ := hX.below iB
    obtain ⟨t, ht⟩ : ∃ t, ss[x]? = some t := ⟨_, List.getElem?_eq_getElem hxl⟩
    obtain ⟨e0, e1, e2, e3⟩ := hset x t ht
    have hacc := ok4_all hss (pre.map (·.1))
    have htok := hss t (List.mem_of_getElem? ht)
    have hsn : orAll ss ((pre ++ [(⟨x, hx⟩ : { x : Nat // x ∈ plTo a b c d 4 })]).map (·.1)) = or4 (orAll ss (pre.map (·.1))) t := by
      rw [List.map_append, List.map_cons, List.map_nil, orAll_snoc, List.getD_eq_getElem?_getD, ht]; rfl
    have HSn : Hid _ := hsn
    clear hsn
    generalize orAll ss (pre.map (·.1)) = acc at i5 hacc HSn
    obtain ⟨o1, o2, o3, o4⟩ := acc
    obtain ⟨t1, t2, t3, t4⟩ := t
    simp only at e0 e1 e2 e3
    have HOr : Hid (∀ W, Calls Tryz.prog 85 _ W _) := fun W => setor_any o1 o2 o3 o4 t1 t2 t3 t4 hacc.1 hacc.2.1 hacc.2.2.1 hacc.2.2.2 htok.1 htok.2.1 htok.2.2.1 htok.2.2.2 W
    obtain ⟨⟨c0, c1, c2, c3⟩, _⟩ := row4 i5
    have p2 : W.cell? ⟨w.heap.size, 0, none⟩ = some (.pointer (some ⟨X, 0, none⟩)) := by rw [cell_of_row _ _ 0 _ _ _ i2]; rfl
    have hxI : (x : Int) < (ss.length : Int) := by omega
    have HI : Hid _ := i5
    have HI2 : Hid _ := i2
    have HI4 : Hid _ := i4
    have HIB : Hid _ := iB
    clear hset ht hacc htok i5 i2 i4 iB hX hT hin hss
    simp only
    gi_wp2_with fail
    gi_region_with (first | (refine ⟨trivial, (fun h => by cases h), ((callsIn_wide.2 (HOr.out _)).inRound l).mono ?_⟩; rintro r w1 ⟨rfl, hB1d⟩; have hB1 := ((Below.refl W.heap.size W).drew).trans hB1d; clear hB1d; obtain ⟨⟨k0, k1, k2, k3⟩, f0, f1, f2, f3⟩ := row4 (heap_keep hB1 HI.out)) | (refine ⟨trivial, ((callsIn_wide.2 (HOr.out _)).inRound l).mono ?_⟩; rintro r w1 ⟨rfl, hB1d⟩; have hB1 := ((Below.refl W.heap.size W).drew).trans hB1d; clear hB1d; obtain ⟨⟨k0, k1, k2, k3⟩, f0, f1, f2, f3⟩ := row4 (heap_keep hB1 HI.out)))
    all_goals
      have hK : Below w.heap.size W w1 := hB1.mono HIB.out.size
      exact ⟨(keepsFrom_below hB1).trans (set4_keeps _ _ _ _ _ _ _), set4_below hK (by omega) _ _ _ _, by rw [HSn.out]; exact set4 (heap_keep hB1 HI.out) _ _ _ _, set4_other (heap_keep hB1 HI2.out) (by omega) _ _ _ _, set4_other (heap_keep hB1 HI4.out) (by omega) _ _ _ _, set4_below (HIB.out.trans hK) (by omega) _ _ _ _⟩
  case done =>
    rintro D ys W hD hys ⟨i5, i2, i4, iB⟩ hK
    rw [hys] at i5
    have HI5 : Hid _ := i5
    have HI4 : Hid _ := i4
    have HIB : Hid _ := iB
    obtain ⟨z, hz⟩ : ∃ z, z = orAll ss (plTo a b c d 4) := ⟨_, rfl⟩
    rw [← hz] at i5
    obtain ⟨z0, z1, z2, z3⟩ := z
    obtain ⟨⟨c0, c1, c2, c3⟩, _⟩ := row4 i5
    obtain ⟨⟨d0, d1, d2, d3⟩, e0, e1, e2, e3⟩ := row4 i4
    have HZ : Hid _ := hz
    clear hz i5 i2 i4 iB hys hX hT hin hss
    simp only at c0 c1 c2 c3
    gi_wp2
    refine ⟨by simp, .inl ⟨_, _, rfl, run_takeDeferred (set4_other hK (by omega) _ _ _ _), ?_⟩⟩
    refine ⟨_, results_cell_row rfl _ _ (w.heap.size + 1 + 1) _ #[.int .u64 (z0 : Int), .int .u64 (z1 : Int), .int .u64 (z2 : Int), .int .u64 (z3 : Int)] (0, 0) _ rfl ((World.putObj_heap_other (by omega)).trans (set4 HI4.out _ _ _ _)) rfl rfl rfl, by rw [← HZ.out], ?_⟩
    exact (set4_below HIB.out (by omega) _ _ _ _).trans (belowK_b (w := w) (Nat.le_refl _) _ D _ _ (by omega) (set4_other hK (by omega) _ _ _ _) rfl rfl)
  case stop =>
    rintro D c pre W _ _ h _
    exact h.elim
/-- all places that may take the label behind one of a set -/
theorem behind_any (X : Nat) (ss : List S4) (hss : ∀ s ∈ ss, ok4 s) (s : S4) (hs : ok4 s) (w : World) (hX : BehAt w X ss) (hin : ∀ p ∈ plTo s.1 s.2.1 s.2.2.1 s.2.2.2 4, p < ss.length) (hT : TzAt w) (h0w : 0 < w.heap.size) :
    Calls Tryz.prog 89 #[.pointer (some ⟨X, 0, none⟩), .agg (v4 s)] w fun e w' => e = .returned (.agg (v4 (orAll ss (plTo s.1 s.2.1 s.2.2.1 s.2.2.2 4)))) ∧ Below w.heap.size w w' :=
  callsIn_wide.1 (behind_in X ss hss s hs w hX hin hT h0w)
end Go.Proofs.YtphjbbbnbmafnabGreatDoor.G

namespace Go.Proofs.YtphjbbbnbmafnabGreatDoor.G
open Go.RowKit Go.Shelf Go.Proofs.YtphjbbbnbmafnabGreatDoor.RxM

attribute [local go_sem] Oper.semAt_some
/-- one place alone -/
def one4 (p : Nat) : S4 := (if p / 64 = 0 then 2 ^ (p % 64) else 0, if p / 64 = 1 then 2 ^ (p % 64) else 0, if p / 64 = 2 then 2 ^ (p % 64) else 0, if p / 64 = 3 then 2 ^ (p % 64) else 0)
set_option maxRecDepth 100000 in
set_option maxHeartbeats 4000000 in
theorem setonly_any (p : Nat) (hp : p < 256) (w : World) : Calls Tryz.prog 54 #[.int .i64 (p : Int)] w fun e w' => e = .returned (.agg (v4 (one4 p))) ∧ Below w.heap.size w w' := by
  have he : IntKind.u64.wrap ((2 : Int) ^ (p % 64)) = ((2 ^ (p % 64) : Nat) : Int) := by
    have := Nat.pow_lt_pow_right (a := 2) (by decide) (show p % 64 < 64 by omega)
    rw [show ((2 : Int) ^ (p % 64)) = ((2 ^ (p % 64) : Nat) : Int) by rw [Int.natCast_pow]; rfl, IntKind.wrap_u64]
    generalize 2 ^ (p % 64) = m at *
    omega
  rcases (show p / 64 = 0 ∨ p / 64 = 1 ∨ p / 64 = 2 ∨ p / 64 = 3 by omega) with d | d | d | d
  all_goals
    have d2 : (p : Int) / 64 = ((p / 64 : Nat) : Int) := by omega
    rw [d] at d2
    go_enter Tryz.func54, Tryz.ntmps54
    go_wp2
    refine bodyPost_ret (results_cell_row rfl _ _ w.heap.size _ _ (0, 0) _ rfl (heap_keep (below1 _ _) (heap_alloc_new w _)) rfl rfl rfl) rfl ⟨by simp [one4, v4, d], xal (below1 _ _)⟩
theorem loop_len (s : ByteArray) : ∀ k i (r : List UInt8), s.size - i ≤ k → r.length ≤ (ByteArray.toList.loop s i r).length := by
  intro k
  induction k with
  | zero => intro i r h; unfold ByteArray.toList.loop; rw [if_neg (by omega)]; simp
  | succ k ih =>
    intro i r h
    unfold ByteArray.toList.loop
    by_cases hi : i < s.size
    · rw [if_pos hi]
      exact Nat.le_trans (by simp) (ih (i + 1) (s.get! i :: r) (by omega))
    · rw [if_neg hi]; simp
theorem bytes_ne {s : ByteArray} (hs : 0 < s.size) : ¬ s.toList = [] := by
  intro h
  have := loop_len s s.size 1 [s.get! 0] (by omega)
  unfold ByteArray.toList ByteArray.toList.loop at h
  rw [if_pos hs] at h
  rw [h] at this
  simp at this
set_option maxRecDepth 100000 in
set_option maxHeartbeats 4000000 in
theorem take_none (R c : Nat) (w : World) (h : w.cell? ⟨R, 0, none⟩ = some (.string ⟨#[]⟩)) : Calls Tryz.prog 84 #[.pointer (some ⟨R, 0, none⟩), .int .u8 (c : Int)] w fun e w' => e = .returned (.bool false) ∧ w' = w := by
  go_enter Tryz.func84, Tryz.ntmps84
  go_wp2
  go_ret
  exact ⟨rfl, rfl⟩
set_option maxRecDepth 100000 in
set_option maxHeartbeats 4000000 in
theorem take_other (R c : Nat) (s : ByteArray) (w : World) (hs : 0 < s.size) (hne : s[0].toNat ≠ c) (h : w.cell? ⟨R, 0, none⟩ = some (.string s)) : Calls Tryz.prog 84 #[.pointer (some ⟨R, 0, none⟩), .int .u8 (c : Int)] w fun e w' => e = .returned (.bool false) ∧ w' = w := by
  have h1 := bytes_ne hs
  have h2 : s.toList.isEmpty = false := by rw [Bool.eq_false_iff]; exact fun e => h1 (List.isEmpty_iff.1 e)
  have h3 : ((s[0].toNat : Int) != (c : Int)) = true := by simp; omega
  go_enter Tryz.func84, Tryz.ntmps84
  go_wp2
  go_ret
  exact ⟨rfl, rfl⟩
set_option maxRecDepth 100000 in
set_option maxHeartbeats 4000000 in
theorem take_same (R : Nat) (s : ByteArray) (w : World) (hs : 0 < s.size) (h : w.cell? ⟨R, 0, none⟩ = some (.string s)) (hf : w.frozen? ⟨R, 0, none⟩ = false) : Calls Tryz.prog 84 #[.pointer (some ⟨R, 0, none⟩), .int .u8 (s[0].toNat : Int)] w fun e w' => e = .returned (.bool true) ∧ w' = w.setCell ⟨R, 0, none⟩ (.string (s.extract 1 s.size)) := by
  have h1 := bytes_ne hs
  have h2 : s.toList.isEmpty = false := by rw [Bool.eq_false_iff]; exact fun e => h1 (List.isEmpty_iff.1 e)
  have h3 : ((s[0].toNat : Int) != (s[0].toNat : Int)) = false := by simp
  go_enter Tryz.func84, Tryz.ntmps84
  go_wp2
  go_ret
  exact ⟨rfl, rfl⟩
/-- the bytes of a text, as numbers -/
def codes (s : ByteArray) : List Nat := s.data.toList.map UInt8.toNat
theorem codes_size (s : ByteArray) : (codes s).length = s.size := by simp [codes]
theorem codes_cons {s : ByteArray} (hs : 0 < s.size) : codes s = s[0].toNat :: codes (s.extract 1 s.size) := by
  have e : (s.extract 1 s.size).data.toList = s.data.toList.drop 1 := by
    rw [ByteArray.data_extract, Array.toList_extract]
    simp only [List.extract_eq_take_drop]
    exact List.take_of_length_le (by simp)
  have h0 : 0 < s.data.toList.length := by simpa using hs
  unfold codes
  rw [e]
  have : s.data.toList = s[0] :: s.data.toList.drop 1 := List.drop_eq_getElem_cons h0
  conv => lhs; rw [this]
  rfl
/-- take: the letter is the next one, and then it is gone; or nothing is done -/
theorem take_any (R c : Nat) (s : ByteArray) (w : World) (h : w.cell? ⟨R, 0, none⟩ = some (.string s)) (hf : w.frozen? ⟨R, 0, none⟩ = false) : Calls Tryz.prog 84 #[.pointer (some ⟨R, 0, none⟩), .int .u8 (c : Int)] w fun e w' => (∃ s2 : ByteArray, codes s = c :: codes s2 ∧ s2.size + 1 = s.size ∧ e = .returned (.bool true) ∧ w' = w.setCell ⟨R, 0, none⟩ (.string s2)) ∨ ((∀ l, codes s ≠ c :: l) ∧ e = .returned (.bool false) ∧ w' = w) := by
  by_cases hs : 0 < s.size
  · by_cases hc : s[0].toNat = c
    · subst hc
      refine (take_same R s w hs h hf).mono ?_
      rintro e w' ⟨rfl, rfl⟩
      have hcs := codes_cons hs
      refine .inl ⟨_, hcs, ?_, rfl, rfl⟩
      have := congrArg List.length hcs
      rw [List.length_cons, codes_size, codes_size] at this
      exact this.symm
    · refine (take_other R c s w hs hc h).mono ?_
      rintro e w' ⟨rfl, rfl⟩
      refine .inr ⟨fun l hl => hc ?_, rfl, rfl⟩
      rw [codes_cons hs] at hl
      exact (List.cons.inj hl).1
  · have h0 : s = ⟨#[]⟩ := ByteArray.size_eq_zero_iff.1 (by omega)
    subst h0
    refine (take_none R c w h).mono ?_
    rintro e w' ⟨rfl, rfl⟩
    exact .inr ⟨fun l hl => by simp [codes] at hl, rfl, rfl⟩
/-- a list of sets, as it lies: its head at ⟨X, o⟩ -/
def SetsAt (w : World) (X o : Nat) (ss : List S4) : Prop := ∃ g off cap, w.cell? ⟨X, o, none⟩ = some (.slice (some ⟨g, off, none⟩) ss.length cap) ∧ ∀ j s, ss[j]? = some s → w.cell? ⟨g, off + j * 4, none⟩ = some (.int .u64 (s.1 : Int)) ∧ w.cell? ⟨g, off + j * 4 + 1, none⟩ = some (.int .u64 (s.2.1 : Int)) ∧ w.cell? ⟨g, off + j * 4 + 2, none⟩ = some (.int .u64 (s.2.2.1 : Int)) ∧ w.cell? ⟨g, off + j * 4 + 3, none⟩ = some (.int .u64 (s.2.2.2 : Int))
theorem SetsAt.beh {w : World} {X : Nat} {ss : List S4} (h : SetsAt w X 0 ss) : BehAt w X ss := h
set_option maxRecDepth 100000 in
set_option maxHeartbeats 4000000 in
theorem taking_any (X : Nat) (ts : List S4) (c : Nat) (t : S4) (w : World) (hX : SetsAt w X 1 ts) (ht : ts[c]? = some t) : Calls Tryz.prog 92 #[.pointer (some ⟨X, 0, none⟩), .int .i64 (c : Int)] w fun e w' => e = .returned (.agg (v4 t)) ∧ Below w.heap.size w w' := by
  obtain ⟨g, off, cap, h0, h1⟩ := hX
  obtain ⟨e0, e1, e2, e3⟩ := h1 c t ht
  have hc : c < ts.length := (List.getElem?_eq_some_iff.1 ht).1
  have hcI : (c : Int) < (ts.length : Int) := by omega
  obtain ⟨t0, t1, t2, t3⟩ := t
  simp only at e0 e1 e2 e3
  have k0 := fun o => cell_kept (below1 w o) _ _ h0
  have l0 := fun o => cell_kept (below1 w o) _ _ e0
  have l1 := fun o => cell_kept (below1 w o) _ _ e1
  have l2 := fun o => cell_kept (below1 w o) _ _ e2
  have l3 := fun o => cell_kept (below1 w o) _ _ e3
  clear h1 ht h0 e0 e1 e2 e3
  go_enter Tryz.func92, Tryz.ntmps92
  go_wp2
  exact bodyPost_ret (results_cell_row rfl _ _ w.heap.size _ _ (0, 0) _ rfl (heap_alloc_new w _) rfl rfl rfl) rfl ⟨rfl, below1 _ _⟩
set_option maxRecDepth 100000 in
set_option maxHeartbeats 4000000 in
theorem istext_any (X : Nat) (s t : S4) (hs : ok4 s) (ht : ok4 t) (w : World) (h2 : w.cell? ⟨X, 2, none⟩ = some (.int .u64 (t.1 : Int))) (h3 : w.cell? ⟨X, 3, none⟩ = some (.int .u64 (t.2.1 : Int))) (h4 : w.cell? ⟨X, 4, none⟩ = some (.int .u64 (t.2.2.1 : Int))) (h5 : w.cell? ⟨X, 5, none⟩ = some (.int .u64 (t.2.2.2 : Int))) :
    Calls Tryz.prog 59 #[.pointer (some ⟨X, 0, none⟩), .agg (v4 s)] w fun e w' => e = .returned (.bool (!(decide (s.1 &&& t.1 = 0 ∧ s.2.1 &&& t.2.1 = 0 ∧ s.2.2.1 &&& t.2.2.1 = 0 ∧ s.2.2.2 &&& t.2.2.2 = 0)))) ∧ Below w.heap.size w w' := by
  obtain ⟨s0, s1, s2, s3⟩ := s
  obtain ⟨t0, t1, t2, t3⟩ := t
  simp only [v4] at h2 h3 h4 h5 ⊢
  have HA : Hid (∀ W, Calls Tryz.prog 91 _ W _) := fun W => setand_any s0 s1 s2 s3 t0 t1 t2 t3 hs.1 hs.2.1 hs.2.2.1 hs.2.2.2 ht.1 ht.2.1 ht.2.2.1 ht.2.2.2 W
  have HE : Hid (∀ W, Calls Tryz.prog 88 _ W _) := fun W => setempty_any (s0 &&& t0) (s1 &&& t1) (s2 &&& t2) (s3 &&& t3) W
  generalize decide (s0 &&& t0 = 0 ∧ s1 &&& t1 = 0 ∧ s2 &&& t2 = 0 ∧ s3 &&& t3 = 0) = z at HE ⊢
  obtain ⟨W0, hW0⟩ : ∃ W0, W0 = w.alloc (.cells #[.int .u64 (s0 : Int), .int .u64 (s1 : Int), .int .u64 (s2 : Int), .int .u64 (s3 : Int)] 114) := ⟨_, rfl⟩
  have hJ : Below w.heap.size w W0 := by rw [hW0]; exact below1 _ _
  have r0 : W0.heap[w.heap.size]? = some (.cells #[.int .u64 (s0 : Int), .int .u64 (s1 : Int), .int .u64 (s2 : Int), .int .u64 (s3 : Int)] 114 (0, 0)) := by rw [hW0]; exact heap_alloc_new w _
  obtain ⟨⟨c0, c1, c2, c3⟩, _⟩ := row4 r0
  have u2 := fun u => ext_cell (cell_kept hJ _ _ h2) u
  have u3 := fun u => ext_cell (cell_kept hJ _ _ h3) u
  have u4 := fun u => ext_cell (cell_kept hJ _ _ h4) u
  have u5 := fun u => ext_cell (cell_kept hJ _ _ h5) u
  have d0 := fun u => ext_cell c0 u
  have d1 := fun u => ext_cell c1 u
  have d2 := fun u => ext_cell c2 u
  have d3 := fun u => ext_cell c3 u
  have HJ : Hid _ := hJ
  clear hJ r0 c0 c1 c2 c3 h2 h3 h4 h5
  go_enter Tryz.func59, Tryz.ntmps59
  go_wp2_with fail
  rw [← hW0]
  have HW0 : Hid _ := hW0
  clear hW0
  refine wp_region_ext (by kernel_rfl) (by kernel_rfl) ?_
  repeat (go_big_quiet_step (first
    | (go_at_call 91; refine (HA.out _).mono ?_; rintro r w1 ⟨rfl, hB⟩; exact ⟨rfl, w1, ext_of (chain (ext_below _ _) hB)⟩)
    | (go_at_call 88; refine (HE.out _).mono ?_; rintro r w1 ⟨rfl, hB⟩; exact ⟨rfl, w1, ext_of (chain (ext_below _ _) hB)⟩)))
  refine wpQuiet_nil ?_
  intro wx hw
  obtain ⟨u, rfl⟩ := hw
  have HB : Hid _ := chain HJ.out (ext_below W0 u)
  go_wp2
  go_ret
  exact ⟨rfl, HB.out⟩
end Go.Proofs.YtphjbbbnbmafnabGreatDoor.G
