/-
  The places of a set, one behind the other (expr.Set.places, its iterator).
-/
import Derived.Test.YtphjbbbnbmafnabGreatDoorXPl
import Derived.Test.YtphjbbbnbmafnabGreatDoorRxS
import Derived.RangeFuncNested
import Derived.RangeFuncBox
import Derived.RangeFuncBound
import Derived.RangeFuncCalls
import Derived.RangeFuncLeaves
import Derived.Shelf.Abstract
import Derived.Shelf.RegionOpen
import Derived.OwnWalkIn
import Derived.TacticsInMore
import Derived.LoopNIn
import Derived.LoopIn
namespace Go.Proofs.YtphjbbbnbmafnabGreatDoor.G
open Go.RowKit Go.Shelf Go.Proofs.YtphjbbbnbmafnabGreatDoor.RxM

attribute [local go_sem] Oper.semAt_some
def wd (a b c d : Nat) (i : Nat) : Nat := [a, b, c, d].getD i 0
theorem wd_lt {a b c d : Nat} (ha : a < 18446744073709551616) (hb : b < 18446744073709551616) (hc : c < 18446744073709551616) (hd : d < 18446744073709551616) (i : Nat) : wd a b c d i < 18446744073709551616 := by
  unfold wd
  match i with
  | 0 => exact ha
  | 1 => exact hb
  | 2 => exact hc
  | 3 => exact hd
  | i + 4 => simp
/-- the places of the first words -/
def plTo (a b c d i : Nat) : List Nat := placesW ([a, b, c, d].take i) 0
theorem placesW_app : ∀ (V U : List Nat) (i : Nat), placesW (V ++ U) i = placesW V i ++ placesW U (i + V.length)
  | [], U, i => rfl
  | v :: V, U, i => by
    rw [List.cons_append, placesW, placesW, placesW_app V U (i + 1), List.append_assoc, List.length_cons, Nat.add_right_comm, ← Nat.add_assoc]
theorem plTo_step (a b c d i : Nat) (hi : i < 4) : plTo a b c d (i + 1) = plTo a b c d i ++ (bl (wd a b c d i)).map (64 * i + ·) := by
  have h : [a, b, c, d][i]? = some (wd a b c d i) := by
    unfold wd
    rw [List.getD_eq_getElem?_getD, List.getElem?_eq_getElem (by simpa using hi)]
    rfl
  unfold plTo
  rw [List.take_add_one, h, Option.toList_some, placesW_app, List.length_take]
  simp only [placesW, List.append_nil, Nat.zero_add, List.length_cons, List.length_nil]
  rw [Nat.min_eq_left (by omega)]
theorem plTo_pre (a b c d i : Nat) : ∃ R, plTo a b c d 4 = plTo a b c d i ++ R := by
  refine ⟨placesW ([a, b, c, d].drop i) (0 + ([a, b, c, d].take i).length), ?_⟩
  unfold plTo
  rw [← placesW_app, List.take_append_drop]
  rfl
theorem plTo_one (a b c d i : Nat) (hi : i < 4) (y : Nat) (hy : wd a b c d i = y) (dn : List Nat) (k : Nat) (r : List Nat) (h : bl y = dn ++ k :: r) : (64 * i + k) ∈ plTo a b c d 4 ∧ (plTo a b c d i ++ dn.map (64 * i + ·)).length < (plTo a b c d 4).length := by
  obtain ⟨R, hR⟩ := plTo_pre a b c d (i + 1)
  rw [plTo_step a b c d i hi, hy, h, List.map_append, List.map_cons] at hR
  rw [hR]
  refine ⟨by simp, by simp⟩
theorem and_pred_lt (x : Nat) (h : x ≠ 0) : x &&& (x - 1) < x := Nat.lt_of_le_of_lt Nat.and_le_right (by omega)
set_option maxRecDepth 100000 in
set_option maxHeartbeats 4000000 in
theorem places1_in (n l Bs n₀ a b c d : Nat) (ha : a < 18446744073709551616) (hb : b < 18446744073709551616) (hc : c < 18446744073709551616) (hd : d < 18446744073709551616) (J Jx : List Nat → World → Prop)
    (W : World) (h0n : 0 < n₀) (hT : TzAt W)
    (hY : ∀ pre (x : Nat) W, J pre W → x ∈ plTo a b c d 4 → pre.length < (plTo a b c d 4).length → YieldAt Fence.wide (n - 1) Tryz.prog l #[.int .i64 (x : Int)] W fun e W' =>
      (e = .returned (.bool true) ∧ J (pre ++ [x]) W' ∧ Below n₀ W W') ∨ (e = .returned (.bool false) ∧ Jx (pre ++ [x]) W'))
    (c0 : W.cell? ⟨Bs, 0, none⟩ = some (.int .u64 (a : Int))) (c1 : W.cell? ⟨Bs, 1, none⟩ = some (.int .u64 (b : Int))) (c2 : W.cell? ⟨Bs, 2, none⟩ = some (.int .u64 (c : Int))) (c3 : W.cell? ⟨Bs, 3, none⟩ = some (.int .u64 (d : Int))) (h0 : J [] W) :
    CallsIn Fence.wide n Tryz.prog 130 #[.func (.yield l) #[] #[], .pointer (some ⟨Bs, 0, none⟩)] W fun e W' => (∃ v, e = .returned v) ∧
      ((∃ ys, ys = plTo a b c d 4 ∧ J ys W') ∨ (∃ pre, Jx pre W')) := by
  have hidx : ∀ i : Nat, i < 4 → ∀ w, (Instr.index 114 (.agg #[.int .u64 (a : Int), .int .u64 (b : Int), .int .u64 (c : Int), .int .u64 (d : Int)]) (.int .i64 (i : Int))).run Tryz.prog w = .ok (.int .u64 (wd a b c d i : Int)) w := fun i hi => by
    rcases (show i = 0 ∨ i = 1 ∨ i = 2 ∨ i = 3 by omega) with rfl | rfl | rfl | rfl <;> exact fun _ => by kernel_rfl
  have HId : Hid _ := hidx
  have HT : Hid _ := hT
  have HY : Hid _ := hY
  have Hw : Hid _ := wd_lt ha hb hc hd
  clear hidx hT hY ha hb hc hd
  refine callsIn_of_wp Tryz.func130 rfl trivial ?_ rfl
  simp only [Tryz.ntmps130, List.size_toArray, List.length_cons, List.length_nil, Nat.reduceAdd, Nat.reduceSub, Array.replicate_succ, Array.replicate_zero, List.push_toArray, List.append_toArray, List.nil_append, List.cons_append]
  gi_wp2
  gi_loopw [6] (fun si wr => ∃ i : Nat, i ≤ 4 ∧ si = .int .i64 (i : Int) ∧ Hid (J (plTo a b c d i) wr ∧ Below n₀ W wr)) (fun si _ => 4 - (intOf si).toNat)
  case atStart => exact ⟨0, Nat.zero_le _, rfl, ⟨h0, Below.refl _ _⟩⟩
  case round =>
    obtain ⟨i, hi, rfl, HI⟩ := hrel
    by_cases hlt : i < 4
    · have hx := HId.out i hlt
      have hiI : (i : Int) < 4 := by omega
      have hw := Hw.out i
      have HSt : Hid _ := plTo_step a b c d i hlt
      have HOne : Hid _ := plTo_one a b c d i hlt
      obtain ⟨y, hyw⟩ : ∃ y, wd a b c d i = y := ⟨_, rfl⟩
      rw [hyw] at hx hw HSt
      have HYw : Hid _ := hyw
      clear hyw
      gi_wp2
      gi_loopw [4] (fun s4 wr => ∃ (x : Nat) (dn : List Nat), x < 18446744073709551616 ∧ s4 = .int .u64 (x : Int) ∧ Hid (bl y = dn ++ bl x ∧ J (plTo a b c d i ++ dn.map (64 * i + ·)) wr ∧ Below n₀ W wr)) (fun s4 _ => (intOf s4).toNat)
      case atStart => exact ⟨y, [], hw, rfl, ⟨rfl, by simpa using HI.out.1, HI.out.2⟩⟩
      case round =>
        obtain ⟨x, dn, hxl, rfl, HI2⟩ := hrel
        by_cases hx0 : x = 0
        · subst hx0
          have HD : Hid (J (plTo a b c d (i + 1)) wr ∧ Below n₀ W wr) := (by
            obtain ⟨e1, e2, e3⟩ := HI2.out
            rw [bl_zero, List.append_nil] at e1
            rw [HSt.out, e1]
            exact ⟨e2, e3⟩ : _ ∧ _)
          rw [show ((0 : Nat) : Int) = 0 from rfl]
          gi_wp2
          go_roundw
          case rel => exact ⟨i + 1, by omega, by simp, HD.out⟩
          case measure => simp [intOf]; omega
        · have hxI : ¬ (x : Int) = 0 := by omega
          obtain ⟨m, hm, hk⟩ := ctz_form x hx0 hxl
          have hbl := bl_low x _ m hm hk
          have HTz : Hid (CallsIn Fence.wide (n - 1) Tryz.prog 131 #[.int .u64 (x : Int)] wr _) := (callsIn_wide.2 (tz_any x hx0 hxl wr (fun j hj => (HI2.out.2.2.cell (p := ⟨0, j, none⟩) h0n).trans (HT.out j hj))) : CallsIn _ _ _ _ _ _ _)
          generalize Lib.ctz 64 x = k at hbl HTz hk
          have e1 : IntKind.u64.wrap ((x : Int) - 1) = ((x - 1 : Nat) : Int) := by rw [IntKind.wrap_u64]; omega
          have e2 := u64_and_nat x (x - 1) hxl (by omega)
          have hlt2 : x &&& (x - 1) < x := and_pred_lt x hx0
          obtain ⟨v, hv⟩ : ∃ v : Nat, v = 64 * i + k := ⟨_, rfl⟩
          obtain ⟨fn, tmps, assign, body, hy, hR⟩ := HY.out _ v wr HI2.out.2.1 (by rw [hv]; exact (HOne.out y HYw.out dn k _ (by rw [HI2.out.1, hbl])).1) (HOne.out y HYw.out dn k _ (by rw [HI2.out.1, hbl])).2
          have HN : Hid (bl y = (dn ++ [k]) ++ bl (x &&& (x - 1)) ∧ plTo a b c d i ++ dn.map (64 * i + ·) ++ [v] = plTo a b c d i ++ (dn ++ [k]).map (64 * i + ·)) := (⟨by rw [HI2.out.1, hbl, List.append_assoc]; rfl, by rw [hv, List.map_append, List.append_assoc]; rfl⟩ : _ ∧ _)
          have HB2 : Hid _ := HI2.out.2.2

          have em : (i : Int) * 64 + (k : Int) = (v : Int) := by omega
          clear hbl hm HI2 hv
          generalize x &&& (x - 1) = x' at e2 hlt2 HN
          gi_wp2_with fail
          refine ⟨trivial, (fun h => by cases h), HTz.out.mono ?_⟩
          rintro e w1 ⟨rfl, hw1⟩
          rw [hw1]
          clear hw1 w1
          gi_wp2
          refine ⟨(fun h => by cases h), hR.mono ?_⟩
          rintro e W3 (⟨rfl, hJ3, hk3⟩ | ⟨rfl, hJx3⟩)
          · have HN2 : Hid _ := (⟨HN.out.1, by rw [← HN.out.2]; exact hJ3, HB2.out.trans hk3⟩ : bl y = (dn ++ [k]) ++ bl x' ∧ J (plTo a b c d i ++ (dn ++ [k]).map (64 * i + ·)) W3 ∧ Below n₀ W W3)
            clear hJ3 hk3
            gi_wp2
            go_roundw
            case rel => exact ⟨x', dn ++ [k], by omega, rfl, HN2.out⟩
            case measure => simp [intOf]; omega
          · gi_wp2
            refine bodyPost_ret (results_none rfl _ _ _) rfl ?_
            exact ⟨⟨_, rfl⟩, .inr ⟨_, hJx3⟩⟩
    · obtain rfl : i = 4 := by omega
      gi_wp2
      go_end0
      exact ⟨⟨_, rfl⟩, .inl ⟨_, rfl, HI.out.1⟩⟩
/-- the iterator, to whoever ranges over it: each place of the set, once -/
theorem places_stops (n Bs n₀ a b c d : Nat) (ha : a < 18446744073709551616) (hb : b < 18446744073709551616) (hc : c < 18446744073709551616) (hd : d < 18446744073709551616) (w : World) (h0n : 0 < n₀) (hT : TzAt w)
    (hrow : w.heap[Bs]? = some (.cells #[.int .u64 (a : Int), .int .u64 (b : Int), .int .u64 (c : Int), .int .u64 (d : Int)] 114 (0, 0))) :
    SeqStopsK Fence.wide n Tryz.prog 130 #[.pointer (some ⟨Bs, 0, none⟩)] (fun x : { x : Nat // x ∈ plTo a b c d 4 } => #[.int .i64 (x.1 : Int)]) (Below n₀) (fun ys => ys.map (·.1) = plTo a b c d 4) (fun _ => True) (plTo a b c d 4).length w := fun l J Jx W hW _ _ hY h0 => by
  obtain ⟨⟨c0, c1, c2, c3⟩, _⟩ := row4 hrow
  refine (places1_in n l Bs n₀ a b c d ha hb hc hd (fun pre W => ∃ pre', pre'.map (·.1) = pre ∧ J pre' W) (fun pre W => ∃ pre', pre'.map (·.1) = pre ∧ Jx pre' W) W h0n (hT.below hW) (fun pre x W1 hp hx hl => ?_) (cell_kept hW _ _ c0) (cell_kept hW _ _ c1) (cell_kept hW _ _ c2) (cell_kept hW _ _ c3) ⟨[], rfl, h0⟩).mono ?_
  · obtain ⟨pre', rfl, hj⟩ := hp
    rw [List.length_map] at hl
    obtain ⟨fn, tmps, assign, body, hy, hR⟩ := hY pre' ⟨x, hx⟩ W1 hj hl
    refine ⟨fn, tmps, assign, body, hy, hR.mono ?_⟩
    rintro e W' (⟨rfl, h1, h2⟩ | ⟨rfl, h1⟩)
    · exact .inl ⟨rfl, ⟨_, by rw [List.map_append]; rfl, h1⟩, h2⟩
    · exact .inr ⟨rfl, _, by rw [List.map_append]; rfl, h1⟩
  · rintro e W' ⟨h1, ⟨ys, rfl, pre', h2, h3⟩ | ⟨pre, pre', _, h3⟩⟩
    · exact ⟨h1, .inl ⟨pre', h2, h3⟩⟩
    · exact ⟨h1, .inr ⟨pre', trivial, h3⟩⟩
end Go.Proofs.YtphjbbbnbmafnabGreatDoor.G
