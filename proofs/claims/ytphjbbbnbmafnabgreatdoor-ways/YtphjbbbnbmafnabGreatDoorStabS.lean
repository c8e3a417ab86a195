/-
  slices.SortedStableFunc over the edges of a slice, by compareLabels: a new list, ordered by labels, what is the same staying as it was; nothing that was there is written.
-/
import Derived.Test.YtphjbbbnbmafnabGreatDoorStabO
import Derived.Test.YtphjbbbnbmafnabGreatDoorInOrd
namespace Go.Proofs.YtphjbbbnbmafnabGreatDoor.G
open Go.RowKit

set_option maxHeartbeats 1000000 in
theorem sortedst_any (Bs : Nat) (v0 : Value) (zs : List E3) (hz : zs.length ≤ 1000000) (hL : Gm.Strict zs) (w : World) (hBs : Bs < w.heap.size) (hc : w.cell? ⟨Bs, 0, none⟩ = some v0) (hI : EdgesAt w v0 zs) (hlow : ∀ a0 len cap, v0 = .slice (some a0) len cap → zs ≠ [] → a0.block < w.heap.size) :
    Calls Tryz.prog 48 #[.func (.func 71) #[] #[.pointer (some ⟨Bs, 0, none⟩)], .func (.func 49) #[] #[]] w fun e w' => ∃ v R, e = .returned v ∧ w'.ownsRow w.heap.size 41 3 v R.length (flat R) ∧ R.Perm zs ∧ Gm.S2 R ∧ Below w.heap.size w w' := by
  have HA : Hid (Calls Tryz.prog 69 _ w _) := collect_any Bs v0 zs hz w hBs hc hI hlow
  go_enter Tryz.func48, Tryz.ntmps48
  go_wp2_with fail
  refine (Calls.mono HA.out ?_)
  rintro e w1 ⟨v, rfl, hrow, hB⟩
  have HS : Hid (Calls Tryz.prog 79 _ w1 _) := sorts_own zs w.heap.size v w1 hrow hz hL
  have HB : Hid (∀ k, v.ownBlock = some k → w.heap.size ≤ k) := (fun k hk => (hrow.lt k hk).1 : ∀ k, v.ownBlock = some k → w.heap.size ≤ k)
  have HBe : Hid _ := hB
  clear hrow hB
  go_wp2_with fail
  refine (Calls.mono HS.out ?_)
  rintro e w2 ⟨rfl, ⟨R, hp, hs, hrow2⟩, hg2⟩
  go_wp2
  go_ret
  exact ⟨v, R, rfl, hrow2, hp, hs, HBe.out.grown hg2 HBe.out.size HB.out⟩
end Go.Proofs.YtphjbbbnbmafnabGreatDoor.G
