/-
  The program's inOrder (slices.Compact of slices.SortedFunc of slices.Values): a new list of the edges in order, each once; nothing that was there is written.
-/
import Derived.Test.YtphjbbbnbmafnabGreatDoorAppSeq
import Derived.Test.YtphjbbbnbmafnabGreatDoorCompact
namespace Go.Proofs.YtphjbbbnbmafnabGreatDoor.G
open Go.RowKit

theorem below_gb {B : Nat} {w a b : World} {v : Value} (h : Below B w a) (hg : a.grownBy b v.ownBlock) (hB : B ≤ a.heap.size) (hr : ∀ k, v.ownBlock = some k → B ≤ k) : Below B w b := h.grown hg hB hr
set_option maxHeartbeats 1000000 in
theorem collect_any (Bs : Nat) (v0 : Value) (zs : List E3) (hz : zs.length ≤ 1000000) (w : World) (hBs : Bs < w.heap.size) (hc : w.cell? ⟨Bs, 0, none⟩ = some v0) (hI : EdgesAt w v0 zs) (hlow : ∀ a0 len cap, v0 = .slice (some a0) len cap → zs ≠ [] → a0.block < w.heap.size) :
    Calls Tryz.prog 69 #[.func (.func 71) #[] #[.pointer (some ⟨Bs, 0, none⟩)]] w fun e w' => ∃ v, e = .returned v ∧ w'.ownsRow w.heap.size 41 3 v zs.length (flat zs) ∧ Below w.heap.size w w' := by
  have HA : Hid (Calls Tryz.prog 102 _ w _) := callsIn_wide.1 (appendSeq_in Fence.wide 9 trivial trivial rfl (by decide) Bs v0 zs hz w hBs hc hI hlow)
  go_enter Tryz.func69, Tryz.ntmps69
  go_wp2_with fail
  refine (Calls.mono HA.out ?_)
  rintro e w1 ⟨v, rfl, hrow, hB⟩
  go_wp2
  go_ret
  exact ⟨v, rfl, hrow, hB⟩
set_option maxHeartbeats 1000000 in
theorem sorted_any (Bs : Nat) (v0 : Value) (zs : List E3) (hz : zs.length ≤ 1000000) (w : World) (hBs : Bs < w.heap.size) (hc : w.cell? ⟨Bs, 0, none⟩ = some v0) (hI : EdgesAt w v0 zs) (hlow : ∀ a0 len cap, v0 = .slice (some a0) len cap → zs ≠ [] → a0.block < w.heap.size) :
    Calls Tryz.prog 38 #[.func (.func 71) #[] #[.pointer (some ⟨Bs, 0, none⟩)], .func (.func 40) #[] #[]] w fun e w' => ∃ v, e = .returned v ∧ w'.ownsRow w.heap.size 41 3 v zs.length (flat (zs.mergeSort fun x y => !Gm.ltE y x)) ∧ Below w.heap.size w w' := by
  have HA : Hid (Calls Tryz.prog 69 _ w _) := collect_any Bs v0 zs hz w hBs hc hI hlow
  go_enter Tryz.func38, Tryz.ntmps38
  go_wp2_with fail
  refine (Calls.mono HA.out ?_)
  rintro e w1 ⟨v, rfl, hrow, hB⟩
  have HS : Hid (Calls Tryz.prog 70 _ w1 _) := sortf_own zs w.heap.size v w1 hrow hz
  have HB : Hid (∀ k, v.ownBlock = some k → w.heap.size ≤ k) := (fun k hk => (hrow.lt k hk).1 : ∀ k, v.ownBlock = some k → w.heap.size ≤ k)
  have HBe : Hid _ := hB
  clear hrow hB
  go_wp2_with fail
  refine (Calls.mono HS.out ?_)
  rintro e w2 ⟨rfl, hrow2, hg2⟩
  go_wp2
  go_ret
  exact ⟨v, rfl, hrow2, HBe.out.grown hg2 HBe.out.size HB.out⟩
theorem ownE_edges {w wr : World} {v : Value} {l : List E3} (h : wr.ownsRow w.heap.size 41 3 v l.length (flat l)) : EdgesAt wr v l := by
  rcases h.2 with ⟨rfl, h0⟩ | ⟨g, cap, cur, rfl, _, hg, r1, r2, r3, r4⟩
  · obtain rfl : l = [] := List.eq_nil_of_length_eq_zero h0
    exact ⟨none, 0, rfl, fun j e hj => by cases hj⟩
  · refine ⟨some ⟨g, 0, none⟩, cap, rfl, fun j e hj => ⟨g, 0, rfl, ?_⟩⟩
    have hR : RowE wr g cap l := ⟨cur, hg, r3, r4⟩
    rw [Nat.zero_add]
    exact hR.cells hj
set_option maxHeartbeats 1000000 in
theorem inorder_any (v0 : Value) (zs : List E3) (hz : zs.length ≤ 1000000) (w : World) (hI : EdgesAt w v0 zs) :
    Calls Tryz.prog 19 #[v0] w fun e w' => ∃ v, e = .returned v ∧ w'.ownsRow w.heap.size 41 3 v (Gm.ordE zs).length (flat (Gm.ordE zs)) ∧ Below w.heap.size w w' := by
  obtain ⟨a0, cap, rfl, hed⟩ := id hI
  have HV : Hid (Calls Tryz.prog 39 _ w _) := callsIn_wide.1 (values_in Fence.wide 9 trivial rfl a0 zs.length cap w)
  have hB1 := below1 w (.cells #[.slice a0 zs.length cap] 27)
  have HS : Hid (Calls Tryz.prog 38 _ (w.alloc (.cells #[.slice a0 zs.length cap] 27)) _) := sorted_any w.heap.size (.slice a0 zs.length cap) zs hz (w.alloc (.cells #[.slice a0 zs.length cap] 27)) (by simp) (by simp) (hI.below hB1) (fun b0 len2 cap2 e hne => by
    cases e
    cases zs with
    | nil => exact absurd rfl hne
    | cons z zs =>
      obtain ⟨g, off, e2, c0, _⟩ := hed 0 z rfl
      cases e2
      have := World.block_lt_of_cell? _ _ c0
      simp at this ⊢
      omega)
  have HB1 : Hid _ := hB1
  clear hed hI hB1
  go_enter Tryz.func19, Tryz.ntmps19
  go_wp2_with fail
  refine (Calls.mono HV.out ?_)
  rintro e w1 ⟨rfl, hw⟩
  rw [hw]
  clear hw w1
  go_wp2_with fail
  refine (Calls.mono HS.out ?_)
  rintro e w2 ⟨v, rfl, hrow, hB2⟩
  have hm : (zs.mergeSort fun x y => !Gm.ltE y x).length = zs.length := List.length_mergeSort _
  rw [← hm] at hrow
  have HC : Hid (Calls Tryz.prog 37 _ w2 _) := compact_own _ _ v w2 hrow (by omega)
  have hb2 := HB1.out.trans (hB2.mono (by simp))
  have HB2 : Hid _ := hb2
  have HBk : Hid (∀ k, v.ownBlock = some k → w.heap.size ≤ k) := (fun k hk => by have := (hrow.lt k hk).1; simp at this; omega : ∀ k, v.ownBlock = some k → w.heap.size ≤ k)
  clear hrow hB2 hb2
  go_wp2_with fail
  refine (Calls.mono HC.out ?_)
  rintro e w3 ⟨v', rfl, hrow3, hg3⟩
  go_wp2
  go_ret
  refine ⟨v', rfl, ?_, HB2.out.grown hg3 HB2.out.size HBk.out⟩
  refine ⟨hrow3.1, ?_⟩
  rcases hrow3.2 with h0 | ⟨g, cap, cur, hv, hb, r⟩
  · exact .inl h0
  · exact .inr ⟨g, cap, cur, hv, by simp at hb; omega, r⟩
end Go.Proofs.YtphjbbbnbmafnabGreatDoor.G
