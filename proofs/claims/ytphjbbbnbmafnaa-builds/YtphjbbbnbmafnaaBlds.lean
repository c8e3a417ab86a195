/-
  trellislaw.first and Builds: the document's example, and every Build: true, for every number and list of edges that lie in memory; nothing that was there is written.
-/
import Derived.Test.YtphjbbbnbmafnaaBlt
namespace Go.Proofs.Ytphjbbbnbmafnaa.G
open Go.RowKit

/-- the document's example -/
theorem first_img : imgOf 2 1 [(0, 0, 1)] = image (gbits 2 1 [(0, 0, 1)]) := by
  have h : okG 2 1 [(0, 0, 1)] := by decide
  unfold imgOf built
  rw [if_pos h, Gm.ordE_self [(0, 0, 1)] (List.pairwise_singleton _ _)]
  rfl
theorem first_size : (imgOf 2 1 [(0, 0, 1)]).size = 256 := by
  rw [first_img, image_size]
  have h := gbits_len 2 1 [(0, 0, 1)] (by decide) (by decide)
  rw [h]
  decide
theorem first_head : (imgOf 2 1 [(0, 0, 1)]).extract 0 5 = ⟨#[0, 8, 32, 0, 100]⟩ := by
  rw [first_img]
  decide +kernel
set_option maxHeartbeats 1000000 in
set_option maxRecDepth 100000 in
theorem first_any (w : World) : Calls Try.prog 36 #[] w fun e w' => e = .returned (.bool true) ∧ Below w.heap.size w w' := by
  have hB1 := below1 w (.cells #[.int .i64 0, .int .i64 0, .int .i64 1] 112)
  have hE : EdgesAt (w.alloc (.cells #[.int .i64 0, .int .i64 0, .int .i64 1] 112)) (.slice (some ⟨w.heap.size, 0, none⟩) 1 1) [(0, 0, 1)] := by
    refine ⟨_, 1, rfl, fun j e hj => ?_⟩
    match j, hj with
    | 0, hj =>
      simp at hj; subst hj
      exact ⟨w.heap.size, 0, rfl, by simp, by simp, by simp⟩
  have HBt : Hid (Calls Try.prog 37 _ (w.alloc (.cells #[.int .i64 0, .int .i64 0, .int .i64 1] 112)) _) := built_any 2 1 [(0, 0, 1)] _ _ hE (fun a n c e => by cases e; decide) (by decide)
  have hs := first_size
  have hh := first_head
  generalize imgOf 2 1 [(0, 0, 1)] = img at HBt hs hh
  have HB1 : Hid _ := hB1
  clear hE hB1
  go_enter Try.func36, Try.ntmps36
  go_wp2_with fail
  refine (Calls.mono HBt.out ?_)
  rintro e w2 ⟨rfl, hB2⟩
  have HB2 : Hid _ := chain HB1.out hB2
  clear hB2
  go_wp2
  go_ret
  exact ⟨rfl, HB2.out⟩
set_option maxHeartbeats 1000000 in
set_option maxRecDepth 100000 in
theorem builds_any (n s : Int) (l : List E3) (v : Value) (w : World) (he : EdgesAt w v l) (hcap : CapOk v) (hlen : l.length * 24 ≤ 140737488351232) :
    Calls Try.prog 7 #[.int .i64 n, .int .i64 s, v] w fun e w' => e = .returned (.bool true) ∧ Below w.heap.size w w' := by
  have HF : Hid (Calls Try.prog 36 _ w _) := first_any w
  have HEd : Hid _ := he
  have HCp : Hid _ := hcap
  obtain ⟨a0, cap, rfl, _⟩ := he
  clear hcap
  go_enter Try.func7, Try.ntmps7
  go_wp2_with fail
  refine (Calls.mono HF.out ?_)
  rintro e w1 ⟨rfl, hB1⟩
  have HBt : Hid (Calls Try.prog 37 _ w1 _) := built_any n s l _ w1 (EdgesAt.below HEd.out hB1) HCp.out hlen
  have HB1 : Hid _ := hB1
  clear hB1
  go_wp2_with fail
  refine (Calls.mono HBt.out ?_)
  rintro e w2 ⟨rfl, hB2⟩
  have HB2 : Hid _ := chain HB1.out hB2
  clear hB2
  go_wp2
  go_ret
  exact ⟨rfl, HB2.out⟩
end Go.Proofs.Ytphjbbbnbmafnaa.G
