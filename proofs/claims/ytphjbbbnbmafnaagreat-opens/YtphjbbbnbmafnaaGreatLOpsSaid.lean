/-
  trellislaw.Opens: every Open, and how large what is opened is: true, at every image; nothing that was there is written.
  For every image, trellislaw.Opens returns true (each Open gives what the document gives, and what is opened is as large), and the argument reads afterwards as it read before. No condition.
-/
import Derived.Test.YtphjbbbnbmafnaaGreatRefOp
import Derived.Test.YtphjbbbnbmafnaaGreatKnown
import Derived.BigQuiet
import Derived.SizedLaws
import Derived.OpenShut
import Derived.ShutString
import Derived.ChangeOld
import Derived.ChangeMaps
namespace Go.Proofs.YtphjbbbnbmafnaaGreat.G
open Go.RowKit

attribute [local go_sem ↓] Go.wp_at_zero Go.wp_at_succ
theorem eqZ2 (a b c : Int) (w : World) : (Op.equalIn 10000 32 (.agg #[.int .i64 a, .int .i64 b, .int .i64 c]) (.agg #[.int .i64 a, .int .i64 b, .int .i64 c])).run Tryz.prog w = .ok true w := by
  have u3 := Tryz.underlying3
  have hS : Tryz.prog.underlying 32 = some (.struct (Tryz.prog.fieldsOf 32)) := by kernel_rfl
  rw [show (10000 : Nat) = 9999 + 1 from rfl, run_equalIn_agg w 9999 32 _ _ hS (by kernel_rfl)]
  simp only [Program.fieldsOf, Tryz.underlying32]
  go_simp
theorem guardZ2 : Tryz.prog.eqGuardType Tryz.prog.depth 32 = false := by kernel_rfl
theorem first_is : Is (imgOf 2 1 [(0, 0, 1)]) 2 1 [(0, 0, 1)] := by
  have h : okG 2 1 [(0, 0, 1)] := by decide
  have k := imgOf_is (n := 2) (s := 1) h
  rw [Gm.ordE_self [(0, 0, 1)] (List.pairwise_singleton _ _)] at k
  exact k
set_option maxHeartbeats 4000000 in
set_option maxRecDepth 100000 in
theorem opens_any (img : ByteArray) (w : World) (hb : img.size ≤ 9223372036854775807) :
    Calls Tryz.prog 3 #[.string img] w fun e w' => e = .returned (.bool true) ∧ Below w.heap.size w w' := by
  have hB1 := below1 w (.cells #[.int .i64 0, .int .i64 0, .int .i64 1] 26)
  have hE : EdgesAt (w.alloc (.cells #[.int .i64 0, .int .i64 0, .int .i64 1] 26)) (.slice (some ⟨w.heap.size, 0, none⟩) 1 1) [(0, 0, 1)] := by
    refine ⟨_, 1, rfl, fun j e hj => ?_⟩
    match j, hj with
    | 0, hj =>
      simp at hj; subst hj
      exact ⟨w.heap.size, 0, rfl, by simp, by simp, by simp⟩
  have hBd := rbuild_any 2 1 [(0, 0, 1)] _ _ hE (fun _ _ _ h => by cases h; exact Nat.le_refl _)
  rw [show errOf 2 1 [(0, 0, 1)] = 0 by decide] at hBd
  have HBt : Hid (Calls Tryz.prog 7 _ (w.alloc (.cells #[.int .i64 0, .int .i64 0, .int .i64 1] 26)) _) := hBd
  have HO1 : Hid (∀ W, Calls Tryz.prog 8 #[.string (imgOf 2 1 [(0, 0, 1)])] W _) := fun W => opened_any _ W (by rw [first_size]; decide)
  have HO2 : Hid (∀ W, Calls Tryz.prog 8 #[.string img] W _) := fun W => opened_any img W hb
  have HF : Hid _ := first_is
  generalize imgOf 2 1 [(0, 0, 1)] = fim at HBt HO1 HF
  have HB1 : Hid _ := hB1
  clear hE hB1 hBd hb
  go_enter Tryz.func3, Tryz.ntmps3
  go_wp2_with fail
  refine (Calls.mono HBt.out ?_)
  rintro e w2 ⟨rfl, hB2⟩
  have HB2 : Hid _ := chain HB1.out hB2
  clear hB2
  go_wp2_with fail
  refine (Calls.mono (HO1.out _) ?_)
  rintro e w3 ⟨hB3, ⟨k1, _⟩ | ⟨_, _, _, q0, _, rfl, _⟩⟩
  · exact absurd HF.out (k1 _ _ _)
  have HB3 : Hid _ := chain HB2.out hB3
  clear hB3
  go_wp2_with fail
  refine (Calls.mono (HO2.out _) ?_)
  rintro e w4 ⟨hB4, ⟨_, rfl⟩ | ⟨n, s, L, q, his, rfl, hp⟩⟩
  · have HB4 : Hid _ := chain HB3.out hB4
    clear hB4
    go_wp2_with fail
    go_quiet (fail)
    go_wp2
    go_ret
    exact ⟨rfl, HB4.out.trans ⟨rfl, rfl, rfl, Nat.le_refl _, fun _ _ => rfl⟩⟩
  · have HB4 : Hid _ := chain HB3.out hB4
    obtain ⟨a, b, c0, c1, hga, v, hgb⟩ := hp
    have d0 := hgb.cn
    have d1 := hgb.cs
    have d2 := hgb.ce
    obtain ⟨a0, cap, rfl, _⟩ := hgb.ed
    have HGa : Hid (GraphAt w4 a n s L) := hga
    have HSz : Hid (∀ W, GraphAt W a n s L → Calls Tryz.prog 9 #[.pointer (some ⟨a, 0, none⟩)] W _) := fun W h => gsize_any h
    have gZ := guardZ2
    have hEq := eqZ2 (n : Int) (s : Int) (L.length : Int)
    clear hB4 hga hgb his
    go_wp2_with fail
    go_region_held3 (fun w' => w'.cell? ⟨q, 0, none⟩ = some (.pointer (some ⟨a, 0, none⟩)) ∧ w'.cell? ⟨q, 1, none⟩ = some (.pointer (some ⟨b, 0, none⟩)) ∧ w'.cell? ⟨b, 0, none⟩ = some (.int .i64 (n : Int)) ∧ w'.cell? ⟨b, 1, none⟩ = some (.int .i64 (s : Int)) ∧ w'.cell? ⟨b, 2, none⟩ = some (.slice a0 L.length cap)) (go_keep)
      (first
        | (go_at_call 9; refine (HSz.out _ ?_).mono ?_; exact (HGa.out.kept (fun _ _ h => h)); rintro r w5 ⟨rfl, hB5⟩; have hB6 := ((Below.refl _ _).drew).trans hB5; have q1 := cell_kept hB6 _ _ c0; have q2 := cell_kept hB6 _ _ c1; have q3 := cell_kept hB6 _ _ d0; have q4 := cell_kept hB6 _ _ d1; have q5 := cell_kept hB6 _ _ d2))
    have HB7 : Hid _ := chain HB4.out hB6
    clear hB5 hB6 q1 q2 q3 q4 q5
    go_wp2
    go_ret
    exact ⟨rfl, HB7.out⟩
end Go.Proofs.YtphjbbbnbmafnaaGreat.G

namespace Go.Proofs.YtphjbbbnbmafnaaGreat.opens
open Go.ChangeShapes Go.WideShapes Go.ChangeAt Go.RowKit
open Go.ChangeMaps (open_string shut_string)

theorem own : ownKnob Tryz.prog.godebug = none := by kernel_rfl
set_option maxRecDepth 100000 in
theorem lifted (os : Os) (started : os.Started) (H : Type) (enc : TypeId × Value → H) :
    ReturnsInHanded {} Tryz.checked os 3 .any (Rows.opensSpec.pre6 enc Tryz.prog Tryz.f3 Rows.opensRow.domain false) (Rows.opensSpec.post enc Tryz.prog Tryz.f3 false true false false) := by
  refine returnsInHanded_of_change (C := Tryz.checked) own started (by kernel_rfl) Tryz.func3
    (ChangeSpec.witness6 (enc := enc) (C := Tryz.checked) false ⟨#[], #[.string ByteArray.empty], []⟩ 8 (by kernel_rfl) (by kernel_rfl) (by kernel_rfl) (by kernel_rfl)) ?_
  intro W base args ds gs before hval0 hW _ _
  have hval : ∀ (j : Nat) t v, Tryz.f3.params[j]? = some t → args[j]? = some v → Value.okWide Tryz.prog W .any base t v := hval0
  have hW' := hW
  obtain ⟨p, q, hA0, hV, rfl, _, _⟩ := hW
  have hA : DataW.TrodAll enc Tryz.prog W 0 (fun _ => true) true Tryz.f3.params.toList args.toList ds p := hA0
  rw [Tryz.params3] at hA hval
  obtain ⟨v0, vs0, d0, ds0, p0, q0, hargs, rfl, rfl, h0, r0⟩ := trodAll_cons hA
  obtain ⟨rfl, rfl, rfl⟩ := trodAll_nil r0
  obtain rfl : args = #[v0] := by cases args; simp_all
  obtain ⟨rfl, rfl⟩ := trodVars_none hV
  obtain ⟨s, rfl, rfl, rfl, hs⟩ := open_string Tryz.underlying9 (hval 0 9 v0 rfl rfl) h0
  clear hA0 hval0
  refine (G.opens_any s W (by unfold maxLen at hs; omega)).mono fun e W' ⟨he, bel⟩ => ?_
  subst he
  exact ⟨_, rfl, _, _, _, [], _, [], hW', trodAll_mk1 (shut_bool Tryz.underlying4 _), (trodAll_cons_mk (shut_string Tryz.underlying9 hs) trodAll_mk0), rfl, bel.frame _, fun h => by cases h⟩

theorem over : Rows.opensRow.holds Tryz.pinned (OpenSpec.ofChange Rows.opensSpec) :=
  OpenClaim.holds_of_wide 3 Tryz.f3 rfl rfl rfl rfl rfl rfl rfl ⟨rfl, rfl, rfl, rfl, rfl⟩ rfl rfl rfl rfl rfl (by kernel_rfl) Tryz.func3 (by kernel_rfl)
    (of_decide_eq_true (by kernel_rfl)) (by unfold Func.isWrapper; first | (rw [if_pos (by decide +kernel)]; kernel_rfl) | (rw [if_neg (by decide +kernel)]; exact ⟨rfl, rfl⟩))
    (fun os started H enc _ => lifted os started H enc)

end Go.Proofs.YtphjbbbnbmafnaaGreat.opens
namespace Go.Proofs.YtphjbbbnbmafnaaGreat
theorem opens_holds : Rows.OpensSaid := opens.over
end Go.Proofs.YtphjbbbnbmafnaaGreat
