/-
  The document's example of a graph, as it is written: its size and its first bytes. No condition.
  trelliskeep.known returns true; nothing that was there is written. No condition.
-/
import Derived.Test.YtphjbbbnbmafnabGreatDoorPBuild
namespace Go.Proofs.YtphjbbbnbmafnabGreatDoor.G
open Go.RowKit

/-- the document's example -/
theorem first_img : imgOf 2 1 [(0, 0, 1)] = image (gbits 2 1 [(0, 0, 1)]) := by
  have h : okG 2 1 [(0, 0, 1)] := by decide
  unfold imgOf built
  rw [if_pos h, Gm.ordE_self [(0, 0, 1)] (List.pairwise_singleton _ _)]
  rfl
theorem first_size : (imgOf 2 1 [(0, 0, 1)]).size = 256 := by
  rw [first_img, image_size]
  have h := gbits_len 2 1 [(0, 0, 1)] (by decide) (by decide)
  rw [h]
  decide
theorem first_head : (imgOf 2 1 [(0, 0, 1)]).extract 0 5 = ⟨#[0, 8, 32, 0, 100]⟩ := by
  rw [first_img]
  decide +kernel
end Go.Proofs.YtphjbbbnbmafnabGreatDoor.G

namespace Go.Proofs.YtphjbbbnbmafnabGreatDoor.G
open Go.RowKit

set_option maxHeartbeats 1000000 in
set_option maxRecDepth 100000 in
theorem known_any (w : World) : Calls Tryz.prog 4 #[] w fun e w' => e = .returned (.bool true) ∧ Below w.heap.size w w' := by
  have hB1 := below1 w (.cells #[.int .i64 0, .int .i64 0, .int .i64 1] 41)
  have hE : EdgesAt (w.alloc (.cells #[.int .i64 0, .int .i64 0, .int .i64 1] 41)) (.slice (some ⟨w.heap.size, 0, none⟩) 1 1) [(0, 0, 1)] := by
    refine ⟨_, 1, rfl, fun j e hj => ?_⟩
    match j, hj with
    | 0, hj =>
      simp at hj; subst hj
      exact ⟨w.heap.size, 0, rfl, by simp, by simp, by simp⟩
  have hBd := build_any 2 1 [(0, 0, 1)] _ _ hE
  rw [show errOf 2 1 [(0, 0, 1)] = 0 by decide] at hBd
  have HBt : Hid (Calls Tryz.prog 5 _ (w.alloc (.cells #[.int .i64 0, .int .i64 0, .int .i64 1] 41)) _) := hBd
  have hs := first_size
  have hh := first_head
  clear hBd
  generalize imgOf 2 1 [(0, 0, 1)] = img at HBt hs hh
  have HB1 : Hid _ := hB1
  clear hE hB1
  go_enter Tryz.func4, Tryz.ntmps4
  go_wp2_with fail
  refine (Calls.mono HBt.out ?_)
  rintro e w2 ⟨rfl, hB2⟩
  have HB2 : Hid _ := chain HB1.out hB2
  clear hB2
  go_wp2
  go_ret
  exact ⟨rfl, HB2.out⟩
end Go.Proofs.YtphjbbbnbmafnabGreatDoor.G
