/-
  One step of the law's script (book.step), by its kind: none, Size, Has, Count: true; the book has at most four entries more; what was there ahead of the book is as it was.
  One step of the law's script (book.step), by its kind: Edges, Out, In: true; the book has at most four entries more; what was there ahead of the book is as it was.
-/
import Derived.Test.YtphjbbbnbmafnaaGreatDoorTake
import Derived.Test.YtphjbbbnbmafnaaGreatDoorPHn
import Derived.Test.YtphjbbbnbmafnaaGreatDoorRefOp
import Derived.Test.YtphjbbbnbmafnaaGreatDoorRefHas
import Derived.Test.YtphjbbbnbmafnaaGreatDoorRefCount
import Derived.Test.YtphjbbbnbmafnaaGreatDoorPIo
import Derived.Test.YtphjbbbnbmafnaaGreatDoorRefOut
namespace Go.Proofs.YtphjbbbnbmafnaaGreatDoor.G
open Go.RowKit

attribute [local go_sem ↓] Go.wp_at_zero Go.wp_at_succ
theorem eqZ' (a b c : Int) (w : World) : (Op.equalIn 10000 23 (.agg #[.int .i64 a, .int .i64 b, .int .i64 c]) (.agg #[.int .i64 a, .int .i64 b, .int .i64 c])).run Tryz.prog w = .ok true w := by
  have u3 := Tryz.underlying3
  have hS : Tryz.prog.underlying 23 = some (.struct (Tryz.prog.fieldsOf 23)) := by kernel_rfl
  rw [show (10000 : Nat) = 9999 + 1 from rfl, run_equalIn_agg w 9999 23 _ _ hS (by kernel_rfl)]
  simp only [Program.fieldsOf, Tryz.underlying23]
  go_simp
theorem guardZ' : Tryz.prog.eqGuardType Tryz.prog.depth 23 = false := by kernel_rfl
/-- what a step leaves -/
def StepPost (B N : Nat) (v2 : Value) (es is : List (Value × Int)) (w : World) (e : Ending) (w' : World) : Prop :=
  e = .returned (.bool true) ∧ (∃ N' v1' es', Bk w' B N' v1' v2 es' is ∧ N' ≤ N + 1 ∧ es'.length ≤ es.length + 4) ∧ Below B w w'
theorem Below.of_size {B : Nat} {w w' : World} (hB : B ≤ w.heap.size) (h : Below w.heap.size w w') : Below B w w' := h.mono hB
theorem stepPost_below {B N : Nat} {v1 v2 : Value} {es is : List (Value × Int)} {w w' : World} (hb : Bk w B N v1 v2 es is) (h : Below w.heap.size w w') : StepPost B N v2 es is w (.returned (.bool true)) w' :=
  ⟨rfl, ⟨N, v1, es, hb.below h, by omega, by omega⟩, h.mono (Nat.le_of_lt hb.lt)⟩
set_option maxHeartbeats 8000000 in
set_option maxRecDepth 100000 in
theorem step_none {w : World} {B N : Nat} {v1 v2 : Value} {es is : List (Value × Int)} {p : Nat} (hb : Bk w B N v1 v2 es is) (h f l t x1 x2 y1 y2 z1 z2 : Int) (q : ByteArray) (k : Int) (hk : ¬ (1 ≤ k ∧ k ≤ 7)) :
    Calls Tryz.prog 8 #[.pointer (some ⟨B, 0, none⟩), .pointer (some ⟨p, 0, none⟩), .agg #[.int .i64 k, .int .i64 h, .int .i64 f, .int .i64 l, .int .i64 t, .int .i64 x1, .int .i64 x2, .int .i64 y1, .int .i64 y2, .int .i64 z1, .int .i64 z2, .string q]] w (StepPost B N v2 es is w) := by
  have e1 : ¬ k = 1 := by omega
  have e2 : ¬ k = 2 := by omega
  have e3 : ¬ k = 3 := by omega
  have e4 : ¬ k = 4 := by omega
  have e5 : ¬ k = 5 := by omega
  have e6 : ¬ k = 6 := by omega
  have e7 : ¬ k = 7 := by omega
  obtain ⟨W0, hW0⟩ : ∃ W0, W0 = w.alloc (.cells #[.int .i64 k, .int .i64 h, .int .i64 f, .int .i64 l, .int .i64 t, .int .i64 x1, .int .i64 x2, .int .i64 y1, .int .i64 y2, .int .i64 z1, .int .i64 z2, .string q] 42) := ⟨_, rfl⟩
  have hJ : Below w.heap.size w W0 := by rw [hW0]; exact below1 _ _
  have HBk : Hid _ := hb
  have HJ : Hid _ := hJ
  clear hb hJ hk
  go_enter Tryz.func8, Tryz.ntmps8
  go_wp2
  rw [← hW0]
  go_ret
  exact stepPost_below HBk.out HJ.out
set_option maxHeartbeats 8000000 in
set_option maxRecDepth 100000 in
theorem step_size {w : World} {B N : Nat} {v1 v2 : Value} {es is : List (Value × Int)} {p n s : Nat} {L : List E3} (hb : Bk w B N v1 v2 es is) (hp : PairAt w p n s L) (h f l t x1 x2 y1 y2 z1 z2 : Int) (q : ByteArray) :
    Calls Tryz.prog 8 #[.pointer (some ⟨B, 0, none⟩), .pointer (some ⟨p, 0, none⟩), .agg #[.int .i64 1, .int .i64 h, .int .i64 f, .int .i64 l, .int .i64 t, .int .i64 x1, .int .i64 x2, .int .i64 y1, .int .i64 y2, .int .i64 z1, .int .i64 z2, .string q]] w (StepPost B N v2 es is w) := by
  obtain ⟨W0, hW0⟩ : ∃ W0, W0 = w.alloc (.cells #[.int .i64 1, .int .i64 h, .int .i64 f, .int .i64 l, .int .i64 t, .int .i64 x1, .int .i64 x2, .int .i64 y1, .int .i64 y2, .int .i64 z1, .int .i64 z2, .string q] 42) := ⟨_, rfl⟩
  have hJ : Below w.heap.size w W0 := by rw [hW0]; exact below1 _ _
  obtain ⟨ga, gb, pa, pb, hga, vb, hgb⟩ := hp.below hJ
  have hbd := hga.bd
  obtain ⟨ac, capc, hvb, _⟩ := hgb.ed
  have q0 := hgb.cn
  have q1 := hgb.cs
  have q2 := hgb.ce
  rw [hvb] at q2
  have HS : Hid (∀ W, Below W0.heap.size W0 W → Calls Tryz.prog 12 #[.pointer (some ⟨ga, 0, none⟩)] W _) := fun W h => gsize_any (hga.below h)
  have upa := fun u => ext_cell pa u
  have upb := fun u => ext_cell pb u
  have uq0 := fun u => ext_cell q0 u
  have uq1 := fun u => ext_cell q1 u
  have uq2 := fun u => ext_cell q2 u
  have gZ := guardZ'
  have hEq := eqZ' (n : Int) (s : Int) (L.length : Int)
  have HBk : Hid _ := hb
  have HJ : Hid _ := hJ
  clear hb hp hJ hga hgb q0 q1 q2 pa pb hvb
  go_enter Tryz.func8, Tryz.ntmps8
  go_wp2_with fail
  rw [← hW0]
  have HW0 : Hid _ := hW0
  clear hW0
  refine wp_region_ext (by kernel_rfl) (by kernel_rfl) ?_
  repeat (go_big_quiet_step (first | (go_at_call 12; refine (HS.out _ (ext_below _ _)).mono ?_; rintro r w1 ⟨rfl, hB⟩; exact ⟨rfl, w1, ext_of (chain (ext_below _ _) hB)⟩)))
  refine wpQuiet_nil ?_
  intro wx hw'
  obtain ⟨u, hw''⟩ := hw'
  subst hw''
  have HB : Hid _ := chain HJ.out (ext_below W0 u)
  go_wp2
  go_ret
  exact stepPost_below HBk.out HB.out
set_option maxHeartbeats 8000000 in
set_option maxRecDepth 100000 in
theorem step_has {w : World} {B N : Nat} {v1 v2 : Value} {es is : List (Value × Int)} {p n s : Nat} {L : List E3} (hb : Bk w B N v1 v2 es is) (hp : PairAt w p n s L) (h f l t x1 x2 y1 y2 z1 z2 : Int) (q : ByteArray) (bf : -9223372036854775808 ≤ f ∧ f ≤ 9223372036854775807) (bl : -9223372036854775808 ≤ l ∧ l ≤ 9223372036854775807) (bt : -9223372036854775808 ≤ t ∧ t ≤ 9223372036854775807) :
    Calls Tryz.prog 8 #[.pointer (some ⟨B, 0, none⟩), .pointer (some ⟨p, 0, none⟩), .agg #[.int .i64 5, .int .i64 h, .int .i64 f, .int .i64 l, .int .i64 t, .int .i64 x1, .int .i64 x2, .int .i64 y1, .int .i64 y2, .int .i64 z1, .int .i64 z2, .string q]] w (StepPost B N v2 es is w) := by
  obtain ⟨W0, hW0⟩ : ∃ W0, W0 = w.alloc (.cells #[.int .i64 5, .int .i64 h, .int .i64 f, .int .i64 l, .int .i64 t, .int .i64 x1, .int .i64 x2, .int .i64 y1, .int .i64 y2, .int .i64 z1, .int .i64 z2, .string q] 42) := ⟨_, rfl⟩
  have hJ : Below w.heap.size w W0 := by rw [hW0]; exact below1 _ _
  obtain ⟨ga, gb, pa, pb, hga, vb, hgb⟩ := hp.below hJ
  have hbd := hga.bd
  have k2 : W0.cell? ⟨w.heap.size, 2, none⟩ = some (.int .i64 f) := by rw [hW0]; exact cell_new _ _ _ 2
  have u2 := fun u => ext_cell k2 u
  have k3 : W0.cell? ⟨w.heap.size, 3, none⟩ = some (.int .i64 l) := by rw [hW0]; exact cell_new _ _ _ 3
  have u3 := fun u => ext_cell k3 u
  have k4 : W0.cell? ⟨w.heap.size, 4, none⟩ = some (.int .i64 t) := by rw [hW0]; exact cell_new _ _ _ 4
  have u4 := fun u => ext_cell k4 u
  have pb' := pb
  obtain ⟨x, e, HH, HR⟩ : ∃ (x : Bool) (e : Int), Hid (∀ W, Below W0.heap.size W0 W → Calls Tryz.prog 20 #[.pointer (some ⟨ga, 0, none⟩), .agg #[.int .i64 f, .int .i64 l, .int .i64 t]] W fun r w' => r = .returned (.tuple #[.bool x, .int .i64 e]) ∧ Below W.heap.size W w') ∧ Hid (∀ W, Below W0.heap.size W0 W → Calls Tryz.prog 21 #[.pointer (some ⟨gb, 0, none⟩), .agg #[.int .i64 f, .int .i64 l, .int .i64 t]] W fun r w' => r = .returned (.tuple #[.bool x, .int .i64 e]) ∧ Below W.heap.size W w') := by
    by_cases hin : (0 ≤ f ∧ f < (n : Int)) ∧ (0 ≤ l ∧ l < (s : Int)) ∧ (0 ≤ t ∧ t < (n : Int))
    · refine ⟨decide ((f, l, t) ∈ L), 0, (fun W hW => ?_ : ∀ W, _), (fun W hW => ?_ : ∀ W, _)⟩
      · obtain ⟨f', rfl⟩ : ∃ m : Nat, f = (m : Int) := ⟨f.toNat, by omega⟩
        obtain ⟨l', rfl⟩ : ∃ m : Nat, l = (m : Int) := ⟨l.toNat, by omega⟩
        obtain ⟨t', rfl⟩ : ∃ m : Nat, t = (m : Int) := ⟨t.toNat, by omega⟩
        exact ghas_any (hga.below hW) f' l' t' (by omega) (by omega) (by omega)
      · have h := has_any (hgb.below hW) (by omega) f l t
        rw [if_pos (by omega), decide_eq_true (by omega : 0 ≤ f ∧ f < (n : Int) ∧ 0 ≤ l ∧ l < (s : Int) ∧ 0 ≤ t ∧ t < (n : Int)), Bool.true_and] at h
        exact h
    · refine ⟨false, 1, (fun W hW => ?_ : ∀ W, _), (fun W hW => ?_ : ∀ W, _)⟩
      · exact ghas_no (hga.below hW) f l t bf bl bt hin
      · have h := has_any (hgb.below hW) (by omega) f l t
        rw [if_neg (by omega), decide_eq_false (by omega : ¬ (0 ≤ f ∧ f < (n : Int) ∧ 0 ≤ l ∧ l < (s : Int) ∧ 0 ≤ t ∧ t < (n : Int))), Bool.false_and] at h
        exact h
  have upa := fun u => ext_cell pa u
  have upb := fun u => ext_cell pb u
  have HBk : Hid _ := hb
  have HJ : Hid _ := hJ
  have HNm : ∀ (q : Int) W, Hid (Calls Tryz.prog 17 #[.int .i64 q] W _) := fun q W => num2_any q W
  clear hb hp hJ hga hgb pa pb hbd
  go_enter Tryz.func8, Tryz.ntmps8
  go_wp2_with fail
  rw [← hW0]
  have HW0 : Hid _ := hW0
  clear hW0
  refine wp_region_ext (by kernel_rfl) (by kernel_rfl) ?_
  repeat (go_big_quiet_step (first | (go_at_call 20; refine (HH.out _ (ext_below _ _)).mono ?_; rintro r w1 ⟨rfl, hB⟩; exact ⟨rfl, w1, ext_of (chain (ext_below _ _) hB)⟩)))
  refine wpQuiet_nil ?_
  intro wx hw'
  obtain ⟨u, hw''⟩ := hw'
  subst hw''
  obtain ⟨W1, hW1⟩ : ∃ W1, W1 = ext W0 u := ⟨_, rfl⟩
  have hB1 : Below W0.heap.size W0 W1 := by rw [hW1]; exact ext_below _ _
  rw [← hW1]
  have HB1 : Hid _ := hB1
  have j2 := fun u => ext_cell (cell_kept hB1 _ _ k2) u
  have j3 := fun u => ext_cell (cell_kept hB1 _ _ k3) u
  have j4 := fun u => ext_cell (cell_kept hB1 _ _ k4) u
  have jpb := fun u => ext_cell (cell_kept hB1 _ _ pb') u
  clear hB1 hW1 upa upb u2 k2 u3 k3 u4 k4 pb'
  go_wp2_with fail
  refine wp_region_ext (by kernel_rfl) (by kernel_rfl) ?_
  repeat (go_big_quiet_step (first | (go_at_call 21; refine (HR.out _ (chain HB1.out (ext_below _ _))).mono ?_; rintro r w1 ⟨rfl, hB⟩; exact ⟨rfl, w1, ext_of (chain (ext_below _ _) hB)⟩)))
  refine wpQuiet_nil ?_
  intro wx hw'
  obtain ⟨u, hw''⟩ := hw'
  subst hw''
  have HB : Hid _ := chain HJ.out (chain HB1.out (ext_below W1 u))
  go_wp2_with fail
  refine (Calls.mono (HNm _ _).out ?_)
  rintro r w2 ⟨rfl, hw⟩
  rw [hw]
  clear hw w2
  go_wp2_with fail
  refine (Calls.mono (HNm _ _).out ?_)
  rintro r w2 ⟨rfl, hw⟩
  rw [hw]
  clear hw w2
  go_wp2
  go_ret
  exact stepPost_below HBk.out HB.out
theorem cnt_in (L : List E3) (a b c d e f : Int) : cntIn L a b c d e f L.length = (L.filter (inB a b c d e f)).length := by
  unfold cntIn inB
  rw [List.take_length]
  congr 1
  refine List.filter_congr fun x _ => ?_
  rw [Bool.and_assoc]
set_option maxHeartbeats 8000000 in
set_option maxRecDepth 100000 in
theorem step_count {w : World} {B N : Nat} {v1 v2 : Value} {es is : List (Value × Int)} {p n s : Nat} {L : List E3} (hb : Bk w B N v1 v2 es is) (hp : PairAt w p n s L) (h f l t x1 x2 y1 y2 z1 z2 : Int) (q : ByteArray) :
    Calls Tryz.prog 8 #[.pointer (some ⟨B, 0, none⟩), .pointer (some ⟨p, 0, none⟩), .agg #[.int .i64 6, .int .i64 h, .int .i64 f, .int .i64 l, .int .i64 t, .int .i64 x1, .int .i64 x2, .int .i64 y1, .int .i64 y2, .int .i64 z1, .int .i64 z2, .string q]] w (StepPost B N v2 es is w) := by
  obtain ⟨W0, hW0⟩ : ∃ W0, W0 = w.alloc (.cells #[.int .i64 6, .int .i64 h, .int .i64 f, .int .i64 l, .int .i64 t, .int .i64 x1, .int .i64 x2, .int .i64 y1, .int .i64 y2, .int .i64 z1, .int .i64 z2, .string q] 42) := ⟨_, rfl⟩
  have hJ : Below w.heap.size w W0 := by rw [hW0]; exact below1 _ _
  obtain ⟨ga, gb, pa, pb, hga, vb, hgb⟩ := hp.below hJ
  have hbd := hga.bd
  have k5 : W0.cell? ⟨w.heap.size, 5, none⟩ = some (.int .i64 x1) := by rw [hW0]; exact cell_new _ _ _ 5
  have u5 := fun u => ext_cell k5 u
  have k6 : W0.cell? ⟨w.heap.size, 6, none⟩ = some (.int .i64 x2) := by rw [hW0]; exact cell_new _ _ _ 6
  have u6 := fun u => ext_cell k6 u
  have k7 : W0.cell? ⟨w.heap.size, 7, none⟩ = some (.int .i64 y1) := by rw [hW0]; exact cell_new _ _ _ 7
  have u7 := fun u => ext_cell k7 u
  have k8 : W0.cell? ⟨w.heap.size, 8, none⟩ = some (.int .i64 y2) := by rw [hW0]; exact cell_new _ _ _ 8
  have u8 := fun u => ext_cell k8 u
  have k9 : W0.cell? ⟨w.heap.size, 9, none⟩ = some (.int .i64 z1) := by rw [hW0]; exact cell_new _ _ _ 9
  have u9 := fun u => ext_cell k9 u
  have k10 : W0.cell? ⟨w.heap.size, 10, none⟩ = some (.int .i64 z2) := by rw [hW0]; exact cell_new _ _ _ 10
  have u10 := fun u => ext_cell k10 u
  have pb' := pb
  obtain ⟨x, e, HH, HR⟩ : ∃ (x : Int) (e : Int), Hid (∀ W, Below W0.heap.size W0 W → Calls Tryz.prog 22 #[.pointer (some ⟨ga, 0, none⟩), .agg #[.int .i64 x1, .int .i64 x2], .agg #[.int .i64 y1, .int .i64 y2], .agg #[.int .i64 z1, .int .i64 z2]] W fun r w' => r = .returned (.tuple #[.int .i64 x, .int .i64 e]) ∧ Below W.heap.size W w') ∧ Hid (∀ W, Below W0.heap.size W0 W → Calls Tryz.prog 23 #[.pointer (some ⟨gb, 0, none⟩), .agg #[.int .i64 x1, .int .i64 x2], .agg #[.int .i64 y1, .int .i64 y2], .agg #[.int .i64 z1, .int .i64 z2]] W fun r w' => r = .returned (.tuple #[.int .i64 x, .int .i64 e]) ∧ Below W.heap.size W w') := by
    by_cases hin : (0 ≤ x1 ∧ x1 ≤ x2 ∧ x2 ≤ (n : Int)) ∧ (0 ≤ y1 ∧ y1 ≤ y2 ∧ y2 ≤ (s : Int)) ∧ (0 ≤ z1 ∧ z1 ≤ z2 ∧ z2 ≤ (n : Int))
    · refine ⟨((L.filter (inB x1 x2 y1 y2 z1 z2)).length : Int), 0, (fun W hW => ?_ : ∀ W, _), (fun W hW => ?_ : ∀ W, _)⟩
      · obtain ⟨x1', rfl⟩ : ∃ m : Nat, x1 = (m : Int) := ⟨x1.toNat, by omega⟩
        obtain ⟨x2', rfl⟩ : ∃ m : Nat, x2 = (m : Int) := ⟨x2.toNat, by omega⟩
        obtain ⟨y1', rfl⟩ : ∃ m : Nat, y1 = (m : Int) := ⟨y1.toNat, by omega⟩
        obtain ⟨y2', rfl⟩ : ∃ m : Nat, y2 = (m : Int) := ⟨y2.toNat, by omega⟩
        obtain ⟨z1', rfl⟩ : ∃ m : Nat, z1 = (m : Int) := ⟨z1.toNat, by omega⟩
        obtain ⟨z2', rfl⟩ : ∃ m : Nat, z2 = (m : Int) := ⟨z2.toNat, by omega⟩
        exact gcountq_yes (hga.below hW) x1' x2' y1' y2' z1' z2' ⟨by omega, by omega⟩ ⟨by omega, by omega⟩ ⟨by omega, by omega⟩
      · have h := count_any (hgb.below hW) (by omega) x1 x2 y1 y2 z1 z2 true true true (decide_eq_true hin.1) (decide_eq_true hin.2.1) (decide_eq_true hin.2.2)
        rw [cnt_in] at h
        exact h
    · refine ⟨0, 1, (fun W hW => ?_ : ∀ W, _), (fun W hW => ?_ : ∀ W, _)⟩
      · exact gcountq_no (hga.below hW) x1 x2 y1 y2 z1 z2 _ _ _ rfl rfl rfl (by simpa only [decide_eq_true_eq] using hin)
      · have h := count_any (hgb.below hW) (by omega) x1 x2 y1 y2 z1 z2 _ _ _ rfl rfl rfl
        rw [show (decide (0 ≤ x1 ∧ x1 ≤ x2 ∧ x2 ≤ (n : Int)) && (decide (0 ≤ y1 ∧ y1 ≤ y2 ∧ y2 ≤ (s : Int)) && decide (0 ≤ z1 ∧ z1 ≤ z2 ∧ z2 ≤ (n : Int)))) = false from by
          rw [Bool.eq_false_iff]; simpa only [ne_eq, Bool.and_eq_true, decide_eq_true_eq] using hin] at h
        exact h
  have upa := fun u => ext_cell pa u
  have upb := fun u => ext_cell pb u
  have HBk : Hid _ := hb
  have HJ : Hid _ := hJ
  have HNm : ∀ (q : Int) W, Hid (Calls Tryz.prog 17 #[.int .i64 q] W _) := fun q W => num2_any q W
  clear hb hp hJ hga hgb pa pb hbd
  go_enter Tryz.func8, Tryz.ntmps8
  go_wp2_with fail
  rw [← hW0]
  have HW0 : Hid _ := hW0
  clear hW0
  refine wp_region_ext (by kernel_rfl) (by kernel_rfl) ?_
  repeat (go_big_quiet_step (first | (go_at_call 22; refine (HH.out _ (ext_below _ _)).mono ?_; rintro r w1 ⟨rfl, hB⟩; exact ⟨rfl, w1, ext_of (chain (ext_below _ _) hB)⟩)))
  refine wpQuiet_nil ?_
  intro wx hw'
  obtain ⟨u, hw''⟩ := hw'
  subst hw''
  obtain ⟨W1, hW1⟩ : ∃ W1, W1 = ext W0 u := ⟨_, rfl⟩
  have hB1 : Below W0.heap.size W0 W1 := by rw [hW1]; exact ext_below _ _
  rw [← hW1]
  have HB1 : Hid _ := hB1
  have j5 := fun u => ext_cell (cell_kept hB1 _ _ k5) u
  have j6 := fun u => ext_cell (cell_kept hB1 _ _ k6) u
  have j7 := fun u => ext_cell (cell_kept hB1 _ _ k7) u
  have j8 := fun u => ext_cell (cell_kept hB1 _ _ k8) u
  have j9 := fun u => ext_cell (cell_kept hB1 _ _ k9) u
  have j10 := fun u => ext_cell (cell_kept hB1 _ _ k10) u
  have jpb := fun u => ext_cell (cell_kept hB1 _ _ pb') u
  clear hB1 hW1 upa upb u5 k5 u6 k6 u7 k7 u8 k8 u9 k9 u10 k10 pb'
  go_wp2_with fail
  refine wp_region_ext (by kernel_rfl) (by kernel_rfl) ?_
  repeat (go_big_quiet_step (first | (go_at_call 23; refine (HR.out _ (chain HB1.out (ext_below _ _))).mono ?_; rintro r w1 ⟨rfl, hB⟩; exact ⟨rfl, w1, ext_of (chain (ext_below _ _) hB)⟩)))
  refine wpQuiet_nil ?_
  intro wx hw'
  obtain ⟨u, hw''⟩ := hw'
  subst hw''
  have HB : Hid _ := chain HJ.out (chain HB1.out (ext_below W1 u))
  go_wp2_with fail
  refine (Calls.mono (HNm _ _).out ?_)
  rintro r w2 ⟨rfl, hw⟩
  rw [hw]
  clear hw w2
  go_wp2_with fail
  refine (Calls.mono (HNm _ _).out ?_)
  rintro r w2 ⟨rfl, hw⟩
  rw [hw]
  clear hw w2
  go_wp2
  go_ret
  exact stepPost_below HBk.out HB.out
end Go.Proofs.YtphjbbbnbmafnaaGreatDoor.G

namespace Go.Proofs.YtphjbbbnbmafnaaGreatDoor.G
open Go.RowKit

attribute [local go_sem ↓] Go.wp_at_zero Go.wp_at_succ
theorem from_eq (L : List E3) (u : Int) : L.filter (fun e => e.1 == u) = L.filter (fromB u (u + 1)) := by
  refine List.filter_congr fun e _ => ?_
  unfold fromB
  rw [Bool.eq_iff_iff, beq_iff_eq, decide_eq_true_eq]
  omega
theorem to_eq (L : List E3) (u : Int) : L.filter (fun e => e.2.2 == u) = L.filter (toB u (u + 1)) := by
  refine List.filter_congr fun e _ => ?_
  unfold toB
  rw [Bool.eq_iff_iff, beq_iff_eq, decide_eq_true_eq]
  omega
/-- the list that came out is taken -/
theorem take_step {w W0 w1 w2 : World} {B N : Nat} {v1 v2 : Value} {es is : List (Value × Int)} (hb : Bk w B N v1 v2 es is) (hJ : Below w.heap.size w W0) (hB1 : Below W0.heap.size W0 w1) (hB2 : Below w1.heap.size w1 w2) (hN : N ≤ 2000000000000) (hn : es.length ≤ 5500000000000) (v vm : Value) (A : List E3) (hv : w1.ownsRow W0.heap.size 38 3 v A.length (flat A)) (hm : EdgesAt w2 vm A) (hA : A.length ≤ 20000) :
    Calls Tryz.prog 14 #[.pointer (some ⟨B, 0, none⟩), v, vm] w2 fun e w' => e = .returned (.bool true) ∧ (∃ v1' es', Bk w' B (N + 1) v1' v2 es' is ∧ es'.length = es.length + 4) ∧ Below B w2 w' := by
  have hs := hJ.size
  have hlt := hb.lt
  exact takeE_any (hb.below (chain (chain hJ hB1) hB2)) W0.heap.size v vm A (own_keep hv hB2) (by omega) (Nat.le_trans hB1.size hB2.size) (fun g hg => by have := (hb.own1.lt g hg).2; omega) (fun g hg => by have := (hb.own2.lt g hg).2; omega) (fun p hp g hg => by have := (hb.bl p hp g hg).2.1; omega) hm hA hN hn
set_option maxHeartbeats 8000000 in
set_option maxRecDepth 100000 in
theorem step_out {w : World} {B N : Nat} {v1 v2 : Value} {es is : List (Value × Int)} {p n s : Nat} {L : List E3} (hb : Bk w B N v1 v2 es is) (hp : PairAt w p n s L) (hN : N ≤ 2000000000000) (hn : es.length ≤ 5500000000000) (h f l t x1 x2 y1 y2 z1 z2 : Int) (q : ByteArray) (bf : -9223372036854775808 ≤ f ∧ f ≤ 9223372036854775807) :
    Calls Tryz.prog 8 #[.pointer (some ⟨B, 0, none⟩), .pointer (some ⟨p, 0, none⟩), .agg #[.int .i64 3, .int .i64 h, .int .i64 f, .int .i64 l, .int .i64 t, .int .i64 x1, .int .i64 x2, .int .i64 y1, .int .i64 y2, .int .i64 z1, .int .i64 z2, .string q]] w (StepPost B N v2 es is w) := by
  obtain ⟨W0, hW0⟩ : ∃ W0, W0 = w.alloc (.cells #[.int .i64 3, .int .i64 h, .int .i64 f, .int .i64 l, .int .i64 t, .int .i64 x1, .int .i64 x2, .int .i64 y1, .int .i64 y2, .int .i64 z1, .int .i64 z2, .string q] 42) := ⟨_, rfl⟩
  have hJ : Below w.heap.size w W0 := by rw [hW0]; exact below1 _ _
  obtain ⟨ga, gb, pa, pb, hga, vb, hgb⟩ := hp.below hJ
  have hbd := hga.bd
  have k2 : W0.cell? ⟨w.heap.size, 2, none⟩ = some (.int .i64 f) := by rw [hW0]; exact cell_new _ _ _ 2
  have u2 := fun u => ext_cell k2 u
  obtain ⟨e, A, hA, HO, HR⟩ : ∃ (e : Int) (A : List E3), A.length ≤ 20000 ∧ Hid (∀ W, Below W0.heap.size W0 W → Calls Tryz.prog 15 #[.pointer (some ⟨ga, 0, none⟩), .int .i64 f] W fun r w' => ∃ z, r = .returned (.tuple #[z, .int .i64 e]) ∧ OwnE W w' z A) ∧ Hid (∀ W, Below W0.heap.size W0 W → Calls Tryz.prog 16 #[.pointer (some ⟨gb, 0, none⟩), .int .i64 f] W fun r w' => ∃ z, r = .returned (.tuple #[z, .int .i64 e]) ∧ OwnE W w' z A) := by
    by_cases hin : 0 ≤ f ∧ f < (n : Int)
    · refine ⟨0, L.filter (fromB f (f + 1)), Nat.le_trans (List.length_filter_le _ _) hbd.2.2.2.2, (fun W hW => ?_ : ∀ W, _), (fun W hW => ?_ : ∀ W, _)⟩
      · refine (gout_any (hga.below hW) f bf.1 bf.2).mono ?_
        rintro r w' (⟨h1, _⟩ | ⟨_, z, h1, h2⟩)
        · exact absurd hin h1
        · exact ⟨z, h1, h2⟩
      · have h := out_yes (hgb.below hW) (by omega) f hin
        rw [from_eq] at h
        exact h
    · refine ⟨1, [], by simp, (fun W hW => ?_ : ∀ W, _), (fun W hW => ?_ : ∀ W, _)⟩
      · refine (gout_any (hga.below hW) f bf.1 bf.2).mono ?_
        rintro r w' (⟨_, h1, h2⟩ | ⟨h1, _⟩)
        · exact ⟨_, h1, World.ownsRow_nil _ _ _ _, h2⟩
        · exact absurd h1 hin
      · refine (out_no (hgb.below hW) f hin).mono ?_
        rintro r w' ⟨h1, h2⟩
        exact ⟨_, h1, World.ownsRow_nil _ _ _ _, by rw [h2]; exact Below.refl _ _⟩
  have HBk : Hid _ := hb
  have HJ : Hid _ := hJ
  have HNm : ∀ (q : Int) W, Hid (Calls Tryz.prog 17 #[.int .i64 q] W _) := fun q W => num2_any q W
  clear hb hp hJ hga hgb hbd u2
  go_enter Tryz.func8, Tryz.ntmps8
  go_wp2_with fail
  rw [← hW0]
  have HW0 : Hid _ := hW0
  clear hW0
  go_region_held3 (fun w' => w'.cell? ⟨p, 0, none⟩ = some (.pointer (some ⟨ga, 0, none⟩)) ∧ w'.cell? ⟨w.heap.size, 2, none⟩ = some (.int .i64 f))
    (first | (refine ⟨?_, ?_⟩ <;> assumption) | (go_keep; done))
    (first
      | (go_at_call 15; refine (HO.out _ ((Below.refl _ _).drew)).mono ?_; rintro r w1 ⟨z1', rfl, hO1⟩; have hB1 := ((Below.refl W0.heap.size W0).drew).trans hO1.2; have j1 := cell_kept hB1 _ _ pa; have j2 := cell_kept hB1 _ _ k2; have j3 := cell_kept hB1 _ _ pb))
  have HO1 : Hid _ := hO1.1
  have HB1 : Hid _ := hB1
  clear hO1 hB1 pa pb k2 HO
  go_wp2_with fail
  go_region_held3 (fun w' => w'.cell? ⟨p, 1, none⟩ = some (.pointer (some ⟨gb, 0, none⟩)) ∧ w'.cell? ⟨w.heap.size, 2, none⟩ = some (.int .i64 f))
    (first | (refine ⟨?_, ?_⟩ <;> assumption) | (go_keep; done))
    (first
      | (go_at_call 16; refine (HR.out _ (HB1.out.drew)).mono ?_; rintro r w2 ⟨z2', rfl, hO2⟩; have hB2 := ((Below.refl w1.heap.size w1).drew).trans hO2.2; have i2 := cell_kept hB2 _ _ j2; have i3 := cell_kept hB2 _ _ j3))
  have HT : Hid (Calls Tryz.prog 14 _ w2 _) := take_step HBk.out HJ.out HB1.out hB2 hN hn z1' z2' A HO1.out (own_edges hO2.1) hA
  have HB2 : Hid _ := chain (chain HJ.out HB1.out) hB2
  clear hO2 hB2 i2 i3 j1 j2 j3 HR HO1
  go_wp2_with fail
  refine (Calls.mono HT.out ?_)
  rintro r w3 ⟨rfl, hbk, hB3⟩
  have HBk3 : Hid _ := hbk
  have HB3 : Hid _ := (HB2.out.mono (Nat.le_of_lt HBk.out.lt)).trans hB3
  clear hbk hB3 HT
  go_wp2_with fail
  refine (Calls.mono (HNm _ _).out ?_)
  rintro r w4 ⟨rfl, hw⟩
  rw [hw]
  clear hw w4
  go_wp2_with fail
  refine (Calls.mono (HNm _ _).out ?_)
  rintro r w4 ⟨rfl, hw⟩
  rw [hw]
  clear hw w4
  go_wp2
  go_ret
  obtain ⟨v1', es', h1, h2⟩ := HBk3.out
  exact ⟨rfl, ⟨N + 1, v1', es', h1, by omega, by omega⟩, HB3.out⟩
set_option maxHeartbeats 8000000 in
set_option maxRecDepth 100000 in
theorem step_in {w : World} {B N : Nat} {v1 v2 : Value} {es is : List (Value × Int)} {p n s : Nat} {L : List E3} (hb : Bk w B N v1 v2 es is) (hp : PairAt w p n s L) (hN : N ≤ 2000000000000) (hn : es.length ≤ 5500000000000) (h f l t x1 x2 y1 y2 z1 z2 : Int) (q : ByteArray) (bt : -9223372036854775808 ≤ t ∧ t ≤ 9223372036854775807) :
    Calls Tryz.prog 8 #[.pointer (some ⟨B, 0, none⟩), .pointer (some ⟨p, 0, none⟩), .agg #[.int .i64 4, .int .i64 h, .int .i64 f, .int .i64 l, .int .i64 t, .int .i64 x1, .int .i64 x2, .int .i64 y1, .int .i64 y2, .int .i64 z1, .int .i64 z2, .string q]] w (StepPost B N v2 es is w) := by
  obtain ⟨W0, hW0⟩ : ∃ W0, W0 = w.alloc (.cells #[.int .i64 4, .int .i64 h, .int .i64 f, .int .i64 l, .int .i64 t, .int .i64 x1, .int .i64 x2, .int .i64 y1, .int .i64 y2, .int .i64 z1, .int .i64 z2, .string q] 42) := ⟨_, rfl⟩
  have hJ : Below w.heap.size w W0 := by rw [hW0]; exact below1 _ _
  obtain ⟨ga, gb, pa, pb, hga, vb, hgb⟩ := hp.below hJ
  have hbd := hga.bd
  have k4 : W0.cell? ⟨w.heap.size, 4, none⟩ = some (.int .i64 t) := by rw [hW0]; exact cell_new _ _ _ 4
  have u4 := fun u => ext_cell k4 u
  obtain ⟨e, A, hA, HO, HR⟩ : ∃ (e : Int) (A : List E3), A.length ≤ 20000 ∧ Hid (∀ W, Below W0.heap.size W0 W → Calls Tryz.prog 18 #[.pointer (some ⟨ga, 0, none⟩), .int .i64 t] W fun r w' => ∃ z, r = .returned (.tuple #[z, .int .i64 e]) ∧ OwnE W w' z A) ∧ Hid (∀ W, Below W0.heap.size W0 W → Calls Tryz.prog 19 #[.pointer (some ⟨gb, 0, none⟩), .int .i64 t] W fun r w' => ∃ z, r = .returned (.tuple #[z, .int .i64 e]) ∧ OwnE W w' z A) := by
    by_cases hin : 0 ≤ t ∧ t < (n : Int)
    · refine ⟨0, L.filter (toB t (t + 1)), Nat.le_trans (List.length_filter_le _ _) hbd.2.2.2.2, (fun W hW => ?_ : ∀ W, _), (fun W hW => ?_ : ∀ W, _)⟩
      · refine (gin_any (hga.below hW) t bt.1 bt.2).mono ?_
        rintro r w' (⟨h1, _⟩ | ⟨_, z, h1, h2⟩)
        · exact absurd hin h1
        · exact ⟨z, h1, h2⟩
      · have h := inn_yes (hgb.below hW) (by omega) t hin
        rw [to_eq] at h
        exact h
    · refine ⟨1, [], by simp, (fun W hW => ?_ : ∀ W, _), (fun W hW => ?_ : ∀ W, _)⟩
      · refine (gin_any (hga.below hW) t bt.1 bt.2).mono ?_
        rintro r w' (⟨_, h1, h2⟩ | ⟨h1, _⟩)
        · exact ⟨_, h1, World.ownsRow_nil _ _ _ _, h2⟩
        · exact absurd h1 hin
      · refine (inn_no (hgb.below hW) t hin).mono ?_
        rintro r w' ⟨h1, h2⟩
        exact ⟨_, h1, World.ownsRow_nil _ _ _ _, by rw [h2]; exact Below.refl _ _⟩
  have HBk : Hid _ := hb
  have HJ : Hid _ := hJ
  have HNm : ∀ (q : Int) W, Hid (Calls Tryz.prog 17 #[.int .i64 q] W _) := fun q W => num2_any q W
  clear hb hp hJ hga hgb hbd u4
  go_enter Tryz.func8, Tryz.ntmps8
  go_wp2_with fail
  rw [← hW0]
  have HW0 : Hid _ := hW0
  clear hW0
  go_region_held3 (fun w' => w'.cell? ⟨p, 0, none⟩ = some (.pointer (some ⟨ga, 0, none⟩)) ∧ w'.cell? ⟨w.heap.size, 4, none⟩ = some (.int .i64 t))
    (first | (refine ⟨?_, ?_⟩ <;> assumption) | (go_keep; done))
    (first
      | (go_at_call 18; refine (HO.out _ ((Below.refl _ _).drew)).mono ?_; rintro r w1 ⟨z1', rfl, hO1⟩; have hB1 := ((Below.refl W0.heap.size W0).drew).trans hO1.2; have j1 := cell_kept hB1 _ _ pa; have j2 := cell_kept hB1 _ _ k4; have j3 := cell_kept hB1 _ _ pb))
  have HO1 : Hid _ := hO1.1
  have HB1 : Hid _ := hB1
  clear hO1 hB1 pa pb k4 HO
  go_wp2_with fail
  go_region_held3 (fun w' => w'.cell? ⟨p, 1, none⟩ = some (.pointer (some ⟨gb, 0, none⟩)) ∧ w'.cell? ⟨w.heap.size, 4, none⟩ = some (.int .i64 t))
    (first | (refine ⟨?_, ?_⟩ <;> assumption) | (go_keep; done))
    (first
      | (go_at_call 19; refine (HR.out _ (HB1.out.drew)).mono ?_; rintro r w2 ⟨z2', rfl, hO2⟩; have hB2 := ((Below.refl w1.heap.size w1).drew).trans hO2.2; have i2 := cell_kept hB2 _ _ j2; have i3 := cell_kept hB2 _ _ j3))
  have HT : Hid (Calls Tryz.prog 14 _ w2 _) := take_step HBk.out HJ.out HB1.out hB2 hN hn z1' z2' A HO1.out (own_edges hO2.1) hA
  have HB2 : Hid _ := chain (chain HJ.out HB1.out) hB2
  clear hO2 hB2 i2 i3 j1 j2 j3 HR HO1
  go_wp2_with fail
  refine (Calls.mono HT.out ?_)
  rintro r w3 ⟨rfl, hbk, hB3⟩
  have HBk3 : Hid _ := hbk
  have HB3 : Hid _ := (HB2.out.mono (Nat.le_of_lt HBk.out.lt)).trans hB3
  clear hbk hB3 HT
  go_wp2_with fail
  refine (Calls.mono (HNm _ _).out ?_)
  rintro r w4 ⟨rfl, hw⟩
  rw [hw]
  clear hw w4
  go_wp2_with fail
  refine (Calls.mono (HNm _ _).out ?_)
  rintro r w4 ⟨rfl, hw⟩
  rw [hw]
  clear hw w4
  go_wp2
  go_ret
  obtain ⟨v1', es', h1, h2⟩ := HBk3.out
  exact ⟨rfl, ⟨N + 1, v1', es', h1, by omega, by omega⟩, HB3.out⟩
set_option maxHeartbeats 8000000 in
set_option maxRecDepth 100000 in
theorem step_edges {w : World} {B N : Nat} {v1 v2 : Value} {es is : List (Value × Int)} {p n s : Nat} {L : List E3} (hb : Bk w B N v1 v2 es is) (hp : PairAt w p n s L) (hN : N ≤ 2000000000000) (hn : es.length ≤ 5500000000000) (h f l t x1 x2 y1 y2 z1 z2 : Int) (q : ByteArray) :
    Calls Tryz.prog 8 #[.pointer (some ⟨B, 0, none⟩), .pointer (some ⟨p, 0, none⟩), .agg #[.int .i64 2, .int .i64 h, .int .i64 f, .int .i64 l, .int .i64 t, .int .i64 x1, .int .i64 x2, .int .i64 y1, .int .i64 y2, .int .i64 z1, .int .i64 z2, .string q]] w (StepPost B N v2 es is w) := by
  obtain ⟨W0, hW0⟩ : ∃ W0, W0 = w.alloc (.cells #[.int .i64 2, .int .i64 h, .int .i64 f, .int .i64 l, .int .i64 t, .int .i64 x1, .int .i64 x2, .int .i64 y1, .int .i64 y2, .int .i64 z1, .int .i64 z2, .string q] 42) := ⟨_, rfl⟩
  have hJ : Below w.heap.size w W0 := by rw [hW0]; exact below1 _ _
  obtain ⟨ga, gb, pa, pb, hga, vb, hgb⟩ := hp.below hJ
  have hbd := hga.bd
  obtain ⟨ac, capc, hvb, _⟩ := id hgb.ed
  have hed := hgb.ed
  have q2 := hgb.ce
  have HE : Hid (Calls Tryz.prog 13 _ W0 _) := gedges_any hga
  have HEd : Hid _ := hed
  have HBk : Hid _ := hb
  have HJ : Hid _ := hJ
  have hL2 := hbd.2.2.2.2
  clear hb hp hJ hga hgb hed hbd hvb
  go_enter Tryz.func8, Tryz.ntmps8
  have k0 := pa
  rw [hW0] at k0
  go_wp2_with fail
  rw [← hW0]
  have HW0 : Hid _ := hW0
  clear hW0
  refine (Calls.mono HE.out ?_)
  rintro r w1 ⟨z1', rfl, hO1⟩
  have j3 := cell_kept hO1.2 _ _ pb
  have j4 := cell_kept hO1.2 _ _ q2
  have HT : Hid (Calls Tryz.prog 14 _ w1 _) := take_step HBk.out HJ.out hO1.2 (Below.refl _ _) hN hn z1' vb L hO1.1 (EdgesAt.below HEd.out hO1.2) hL2
  have HB2 : Hid _ := chain HJ.out hO1.2
  clear hO1 HE k0 pa pb q2
  go_wp2_with fail
  refine (Calls.mono HT.out ?_)
  rintro r w3 ⟨rfl, hbk, hB3⟩
  have HBk3 : Hid _ := hbk
  have HB3 : Hid _ := (HB2.out.mono (Nat.le_of_lt HBk.out.lt)).trans hB3
  clear hbk hB3 HT
  go_wp2
  go_ret
  obtain ⟨v1', es', h1, h2⟩ := HBk3.out
  exact ⟨rfl, ⟨N + 1, v1', es', h1, by omega, by omega⟩, HB3.out⟩
end Go.Proofs.YtphjbbbnbmafnaaGreatDoor.G
