/-
  slices.Compact over a row of edges of one's own, walked: what is the same as the one ahead of it falls; nothing else that was there is written.
  The program's inOrder (slices.Compact of slices.SortedFunc of slices.Values): a new list of the edges in order, each once; nothing that was there is written.
  The program's Build: what it gives, at all numbers and lists of edges: the pages of the graph, or ErrInput; nothing that was there is written.
  trelliskeep.made: a list of edges out of raw numbers, each of which may be in a graph of 50 nodes and 4 labels, at most 500; nothing that was there is written.
  The document's example of a graph, as it is written: its size and its first bytes. No condition.
  trelliskeep.known returns true; nothing that was there is written. No condition.
-/
import Derived.Test.YtphjbbbnbmafnabGreatDoorComp
import Derived.BigQuiet
import Derived.Test.YtphjbbbnbmafnabGreatDoorPText
import Derived.Test.YtphjbbbnbmafnabGreatDoorGBits
import Derived.Deep.RegionHeld3
import Derived.Deep.AppendLies
import Derived.Deep.DrawnRows
namespace Go.Proofs.YtphjbbbnbmafnabGreatDoor.G
open Go.RowKit

theorem dd_short (l : List E3) (h : l.length < 2) : Gm.dd l = l := by
  match l, h with
  | [], _ => rfl
  | [a], _ => rfl
theorem dd_step {l : List E3} {m : Nat} {x y : E3} (hx : l[m]? = some x) (hy : l[m - 1]? = some y) (hm : 0 < m) : Gm.dd (l.take (m + 1)) = Gm.dd (l.take m) ++ (if x = y then [] else [x]) := by
  have hl := len_of hx
  have hne : l.take m ≠ [] := by
    intro e
    have := congrArg List.length e
    rw [List.length_take, List.length_nil] at this
    omega
  rw [take_snoc' hx, Gm.dd_snoc _ hne]
  have : (l.take m).getLast hne = y := by
    rw [List.getLast_eq_getElem]
    have h2 : l[m - 1]? = some y := hy
    rw [List.getElem?_eq_getElem (by omega)] at h2
    simp only [List.getElem_take, List.length_take]
    have e : min m l.length - 1 = m - 1 := by omega
    simp only [e]
    exact Option.some.inj h2
  rw [this]
set_option maxHeartbeats 8000000 in
set_option maxRecDepth 100000 in
theorem compact_own (l : List E3) (base : Nat) (v : Value) (W : World) (hrow : W.ownsRow base 41 3 v l.length (flat l)) (hl : l.length ≤ 1000000) :
    Calls Tryz.prog 37 #[v] W fun e w' => ∃ v', e = .returned v' ∧ w'.ownsRow base 41 3 v' (Gm.dd l).length (flat (Gm.dd l)) ∧ W.grownBy w' v.ownBlock := by
  by_cases h2 : l.length < 2
  · have HD : Hid _ := dd_short l h2
    have HR : Hid _ := hrow
    rw [HD.out]
    have h2I : (l.length : Int) < 2 := by omega
    obtain ⟨a0, cap, rfl⟩ : ∃ a0 cap, v = .slice a0 l.length cap := by
      rcases hrow.2 with ⟨rfl, h0⟩ | ⟨g, cap, cur, rfl, _⟩
      · exact ⟨none, 0, by rw [h0]⟩
      · exact ⟨_, _, rfl⟩
    clear hrow
    go_enter Tryz.func37, Tryz.ntmps37
    go_wp2
    go_ret
    exact ⟨_, rfl, HR.out, ⟨rfl, rfl, rfl, Nat.le_refl _, fun _ _ _ => rfl⟩⟩
  · have h2I : ¬ (l.length : Int) < 2 := by omega
    obtain ⟨g, cap, cur, rfl, hbase, hgb, r1, r2, r3, r4⟩ : ∃ g cap cur, v = .slice (some ⟨g, 0, none⟩) l.length cap ∧ base ≤ g ∧ W.heap[g]? = some (.cells cur 41 (0, 0)) ∧ l.length ≤ cap ∧ cap ≤ maxLen ∧ cur.size = cap * 3 ∧ cur.toList.take (l.length * 3) = flat l := by
      rcases hrow.2 with ⟨rfl, h0⟩ | h
      · omega
      · exact h
    have HR0 : Hid (RowE W g cap l) := ⟨cur, hgb, r3, r4⟩
    have HB : Hid _ := hrow
    have gE := guardE
    clear hrow hgb r3 r4
    go_enter Tryz.func37, Tryz.ntmps37
    go_wp2
    go_loopw [3] (fun sk wr => ∃ k q : Nat, 1 ≤ k ∧ k ≤ l.length ∧ sk = .int .i64 (k : Int) ∧ wr = W.drewN q ∧ Hid (Gm.dd (l.take k) = l.take k)) (fun sk _ => l.length - (intOf sk).toNat)
    case atStart => exact ⟨1, 0, Nat.le_refl _, by omega, rfl, rfl, (dd_short _ (by simp; omega) : Gm.dd (l.take 1) = l.take 1)⟩
    case round =>
      obtain ⟨k, q, hk1, hk2, rfl, rfl, HI⟩ := hrel
      by_cases hlt : k < l.length
      · obtain ⟨x, hx⟩ : ∃ x, l[k]? = some x := ⟨_, List.getElem?_eq_getElem hlt⟩
        obtain ⟨y, hy⟩ : ∃ y, l[k - 1]? = some y := ⟨_, List.getElem?_eq_getElem (by omega)⟩
        obtain ⟨c0, c1, c2⟩ := HR0.out.cells hx
        obtain ⟨d0, d1, d2⟩ := HR0.out.cells hy
        have HT := dd_step hx hy (by omega)
        have hkI : (k : Int) < (l.length : Int) := by omega
        have hk1I : (k : Int) - 1 = ((k - 1 : Nat) : Int) := by omega
        have hk1N : ((k - 1 : Nat) : Int) < (l.length : Int) := by omega
        obtain ⟨x1, x2, x3⟩ := x
        obtain ⟨y1, y2, y3⟩ := y
        simp only at c0 c1 c2 d0 d1 d2
        by_cases hxe : (x1, x2, x3) = (y1, y2, y3)
        · have hEq := eqlE x1 x2 x3 y1 y2 y3 true (decide_eq_true hxe)
          rw [if_pos hxe, List.append_nil] at HT
          have HT2 : Hid _ := HT
          clear hxe HT hx hy
          go_wp2
          go_quiet (fail)
          go_wp2
          go_loopw [3, 5] (fun sm sj wr => ∃ m j : Nat, 1 ≤ j ∧ k + j ≤ l.length ∧ sj = .int .i64 (j : Int) ∧ sm = .int .i64 (m : Int) ∧ m < k + j ∧ Hid (m = (Gm.dd (l.take (k + j))).length ∧ RowE wr g cap (Gm.dd (l.take (k + j)) ++ l.drop m) ∧ W.grownBy wr (some g))) (fun _ sj _ => l.length - (intOf sj).toNat)
          case atStart =>
            refine ⟨k, 1, Nat.le_refl _, by omega, rfl, rfl, by omega, ?_⟩
            have e : Gm.dd (l.take (k + 1)) = l.take k := by rw [HT2.out, HI.out]
            have e2 : l.take k ++ l.drop k = l := List.take_append_drop k l
            exact (show _ ∧ _ ∧ _ from ⟨by rw [e, List.length_take]; omega, by rw [e, e2]; exact HR0.out, gb_drewN _ _ _⟩)
          case round =>
            obtain ⟨m, j, hj1, hj2, rfl, rfl, hmj, HM⟩ := hrel
            have hmk : ((l.length - k : Nat) : Int) = (l.length : Int) - (k : Int) := by omega
            by_cases hlt2 : k + j < l.length
            · obtain ⟨x, hx⟩ : ∃ x, l[k + j]? = some x := ⟨_, List.getElem?_eq_getElem hlt2⟩
              obtain ⟨y, hy⟩ : ∃ y, l[k + j - 1]? = some y := ⟨_, List.getElem?_eq_getElem (by omega)⟩
              have hLx : (Gm.dd (l.take (k + j)) ++ l.drop m)[k + j]? = some x := by
                rw [List.getElem?_append_right (by rw [← HM.out.1]; omega), ← HM.out.1, List.getElem?_drop, show m + (k + j - m) = k + j by omega]; exact hx
              have hLy : (Gm.dd (l.take (k + j)) ++ l.drop m)[k + j - 1]? = some y := by
                rw [List.getElem?_append_right (by rw [← HM.out.1]; omega), ← HM.out.1, List.getElem?_drop, show m + (k + j - 1 - m) = k + j - 1 by omega]; exact hy
              obtain ⟨c0, c1, c2⟩ := HM.out.2.1.cells hLx
              obtain ⟨d0, d1, d2⟩ := HM.out.2.1.cells hLy
              rw [show (k + j) * 3 = k * 3 + j * 3 by omega] at c0 c1 c2
              rw [show (k + j - 1) * 3 = k * 3 + (j - 1) * 3 by omega] at d0 d1 d2
              have HT := dd_step hx hy (by omega)
              have hjI : (j : Int) < ((l.length - k : Nat) : Int) := by omega
              have hj1I : (j : Int) - 1 = ((j - 1 : Nat) : Int) := by omega
              have hj1N : ((j - 1 : Nat) : Int) < ((l.length - k : Nat) : Int) := by omega
              have hmI : (m : Int) < (l.length : Int) := by omega
              obtain ⟨x1, x2, x3⟩ := x
              obtain ⟨y1, y2, y3⟩ := y
              simp only at c0 c1 c2 d0 d1 d2
              by_cases hxe : (x1, x2, x3) = (y1, y2, y3)
              · have hEq2 := eqlE x1 x2 x3 y1 y2 y3 true (decide_eq_true hxe)
                rw [if_pos hxe, List.append_nil] at HT
                have HT3 : Hid (Gm.dd (l.take (k + (j + 1))) = Gm.dd (l.take (k + j))) := HT
                clear hxe HT hx hy hLx hLy hmk hEq
                go_wp2
                go_quiet (fail)
                go_wp2
                go_roundw
                case rel =>
                  refine ⟨m, j + 1, by omega, by omega, by go_num, rfl, by omega, ?_⟩
                  rw [HT3.out]
                  exact (show _ ∧ _ ∧ _ from ⟨HM.out.1, HM.out.2.1.drewN _, gb_trans HM.out.2.2 (gb_drewN _ _ _)⟩)
                case measure => simp [intOf] <;> omega
              · have hEq2 := eqlE x1 x2 x3 y1 y2 y3 false (decide_eq_false hxe)
                rw [if_neg hxe] at HT
                have HT3 : Hid (Gm.dd (l.take (k + (j + 1))) = Gm.dd (l.take (k + j)) ++ [(x1, x2, x3)]) := HT
                obtain ⟨z, hz⟩ : ∃ z, l[m]? = some z := ⟨_, List.getElem?_eq_getElem (by omega)⟩
                have hLz : (Gm.dd (l.take (k + j)) ++ l.drop m)[m]? = some z := by
                  rw [List.getElem?_append_right (by rw [← HM.out.1]; exact Nat.le_refl _), ← HM.out.1, List.getElem?_drop, Nat.sub_self]; exact hz
                obtain ⟨e0, e1, e2⟩ := HM.out.2.1.cells hLz
                have f0 := HM.out.2.1.frozen (m * 3)
                have f1 := HM.out.2.1.frozen (m * 3 + 1)
                have f2 := HM.out.2.1.frozen (m * 3 + 2)
                clear hxe HT hx hy hLx hLy hmk hEq hz hLz
                go_wp2
                go_quiet (fail)
                go_wp2
                have HP : Hid _ := (HM.out.2.1.drewN nq).put (k := m) (x1, x2, x3) (by rw [List.length_append, ← HM.out.1, List.length_drop]; omega)
                have HS : Hid ((Gm.dd (l.take (k + j)) ++ l.drop m).set m (x1, x2, x3) = Gm.dd (l.take (k + (j + 1))) ++ l.drop (m + 1)) := (by
                  rw [HT3.out, List.set_append_right _ _ (by rw [← HM.out.1]; exact Nat.le_refl _), ← HM.out.1, Nat.sub_self, List.append_assoc]
                  congr 1
                  rw [List.drop_eq_getElem_cons (by omega : m < l.length), List.set_cons_zero]; rfl : _ = _)
                go_roundw
                case rel =>
                  refine ⟨m + 1, j + 1, by omega, by omega, by go_num, by go_num, by omega, ?_⟩
                  have h1 := HP.out
                  rw [HS.out] at h1
                  exact (show _ ∧ _ ∧ _ from ⟨by rw [HT3.out, List.length_append, ← HM.out.1]; rfl, h1, gb_trans (gb_trans (gb_trans (gb_trans HM.out.2.2 (gb_drewN _ _ _)) (gb_set _ _ _ _)) (gb_set _ _ _ _)) (gb_set _ _ _ _)⟩)
                case measure => simp [intOf] <;> omega
            · have hkj : k + j = l.length := by omega
              have hM := HM.out
              rw [hkj, List.take_length] at hM
              obtain ⟨hm1, ⟨cur2, hg2, hs2, ht2⟩, hgr⟩ := hM
              have hmln : m < l.length := by omega
              have hLl : (Gm.dd l ++ l.drop m).length = l.length := by rw [List.length_append, List.length_drop, ← hm1]; omega
              rw [hLl] at ht2
              obtain ⟨vs, hvl, hclr⟩ := clear_rows wr g (m * 3) (l.length - m) (cap - m) 0 _ cur2 hg2 (by omega) (by rw [hs2]; omega)
              have hjI : ¬ (j : Int) < ((l.length - k : Nat) : Int) := by omega
              have hmI : (m : Int) ≤ (l.length : Int) := by omega
              have HF : Hid ((wr.setRow g (cur2.toList.take (m * 3) ++ vs ++ cur2.toList.drop (m * 3 + vs.length)).toArray).ownsRow base 41 3 (.slice (some ⟨g, 0, none⟩) m cap) (Gm.dd l).length (flat (Gm.dd l))) := (by
                refine ⟨flat_len _, .inr ⟨g, cap, _, by rw [hm1], hbase, setRow_heap _ _ _ _ _ _ hg2, by rw [← hm1]; omega, r2, ?_, ?_⟩⟩
                · simp [hs2, hvl]; omega
                · rw [← hm1]
                  have e1 : (cur2.toList.take (m * 3)).length = m * 3 := by simp [hs2]; omega
                  show ((cur2.toList.take (m * 3) ++ vs ++ cur2.toList.drop (m * 3 + vs.length)).toArray.toList).take (m * 3) = _
                  rw [List.append_assoc, show (cur2.toList.take (m * 3) ++ (vs ++ cur2.toList.drop (m * 3 + vs.length))).toArray.toList = cur2.toList.take (m * 3) ++ (vs ++ cur2.toList.drop (m * 3 + vs.length)) from rfl, List.take_append_of_le_length (by omega), List.take_of_length_le (by omega)]
                  have h3 := congrArg (List.take (m * 3)) ht2
                  rw [List.take_take, Nat.min_eq_left (by omega), flat_append, List.take_append_of_le_length (by rw [flat_len, ← hm1]; exact Nat.le_refl _)] at h3
                  have h4 : (flat (Gm.dd l)).take (m * 3) = flat (Gm.dd l) := List.take_of_length_le (by rw [flat_len, ← hm1]; exact Nat.le_refl _)
                  rw [h4] at h3
                  exact h3 : World.ownsRow _ _ _ _ _ _ _)
              have HGr : Hid (W.grownBy (wr.setRow g (cur2.toList.take (m * 3) ++ vs ++ cur2.toList.drop (m * 3 + vs.length)).toArray) (some g)) := gb_trans hgr (gb_row _ _ _)
              generalize (cur2.toList.take (m * 3) ++ vs ++ cur2.toList.drop (m * 3 + vs.length)).toArray = fin at hclr HF HGr
              clear hkj hm1 hg2 hs2 ht2 hgr hLl hvl hEq
              go_wp2
              go_ret
              exact ⟨_, rfl, HF.out, HGr.out⟩
        · have hEq := eqlE x1 x2 x3 y1 y2 y3 false (decide_eq_false hxe)
          rw [if_neg hxe] at HT
          have HT2 : Hid (Gm.dd (l.take (k + 1)) = l.take (k + 1)) := (by rw [HT, HI.out, take_snoc' hx] : _ = _)
          clear hxe HT hx hy
          go_wp2
          go_quiet (fail)
          go_wp2
          go_roundw
          case rel => exact ⟨k + 1, _, by omega, by omega, by go_num, rfl, HT2.out⟩
          case measure => simp [intOf] <;> omega
      · obtain rfl : k = l.length := by omega
        have hI := HI.out
        rw [List.take_length] at hI
        have HE : Hid (Gm.dd l = l) := hI
        clear hI HI
        go_wp2
        go_ret
        refine ⟨_, rfl, ?_, gb_drewN _ _ _⟩
        rw [HE.out]
        exact HB.out
end Go.Proofs.YtphjbbbnbmafnabGreatDoor.G

namespace Go.Proofs.YtphjbbbnbmafnabGreatDoor.G
open Go.RowKit

theorem below_gb {B : Nat} {w a b : World} {v : Value} (h : Below B w a) (hg : a.grownBy b v.ownBlock) (hB : B ≤ a.heap.size) (hr : ∀ k, v.ownBlock = some k → B ≤ k) : Below B w b := h.grown hg hB hr
set_option maxHeartbeats 1000000 in
theorem collect_any (Bs : Nat) (v0 : Value) (zs : List E3) (hz : zs.length ≤ 1000000) (w : World) (hBs : Bs < w.heap.size) (hc : w.cell? ⟨Bs, 0, none⟩ = some v0) (hI : EdgesAt w v0 zs) (hlow : ∀ a0 len cap, v0 = .slice (some a0) len cap → zs ≠ [] → a0.block < w.heap.size) :
    Calls Tryz.prog 69 #[.func (.func 71) #[] #[.pointer (some ⟨Bs, 0, none⟩)]] w fun e w' => ∃ v, e = .returned v ∧ w'.ownsRow w.heap.size 41 3 v zs.length (flat zs) ∧ Below w.heap.size w w' := by
  have HA : Hid (Calls Tryz.prog 102 _ w _) := callsIn_wide.1 (appendSeq_in Fence.wide 9 trivial trivial rfl (by decide) Bs v0 zs hz w hBs hc hI hlow)
  go_enter Tryz.func69, Tryz.ntmps69
  go_wp2_with fail
  refine (Calls.mono HA.out ?_)
  rintro e w1 ⟨v, rfl, hrow, hB⟩
  go_wp2
  go_ret
  exact ⟨v, rfl, hrow, hB⟩
set_option maxHeartbeats 1000000 in
theorem sorted_any (Bs : Nat) (v0 : Value) (zs : List E3) (hz : zs.length ≤ 1000000) (w : World) (hBs : Bs < w.heap.size) (hc : w.cell? ⟨Bs, 0, none⟩ = some v0) (hI : EdgesAt w v0 zs) (hlow : ∀ a0 len cap, v0 = .slice (some a0) len cap → zs ≠ [] → a0.block < w.heap.size) :
    Calls Tryz.prog 38 #[.func (.func 71) #[] #[.pointer (some ⟨Bs, 0, none⟩)], .func (.func 40) #[] #[]] w fun e w' => ∃ v, e = .returned v ∧ w'.ownsRow w.heap.size 41 3 v zs.length (flat (zs.mergeSort fun x y => !Gm.ltE y x)) ∧ Below w.heap.size w w' := by
  have HA : Hid (Calls Tryz.prog 69 _ w _) := collect_any Bs v0 zs hz w hBs hc hI hlow
  go_enter Tryz.func38, Tryz.ntmps38
  go_wp2_with fail
  refine (Calls.mono HA.out ?_)
  rintro e w1 ⟨v, rfl, hrow, hB⟩
  have HS : Hid (Calls Tryz.prog 70 _ w1 _) := sortf_own zs w.heap.size v w1 hrow hz
  have HB : Hid (∀ k, v.ownBlock = some k → w.heap.size ≤ k) := (fun k hk => (hrow.lt k hk).1 : ∀ k, v.ownBlock = some k → w.heap.size ≤ k)
  have HBe : Hid _ := hB
  clear hrow hB
  go_wp2_with fail
  refine (Calls.mono HS.out ?_)
  rintro e w2 ⟨rfl, hrow2, hg2⟩
  go_wp2
  go_ret
  exact ⟨v, rfl, hrow2, HBe.out.grown hg2 HBe.out.size HB.out⟩
theorem ownE_edges {w wr : World} {v : Value} {l : List E3} (h : wr.ownsRow w.heap.size 41 3 v l.length (flat l)) : EdgesAt wr v l := by
  rcases h.2 with ⟨rfl, h0⟩ | ⟨g, cap, cur, rfl, _, hg, r1, r2, r3, r4⟩
  · obtain rfl : l = [] := List.eq_nil_of_length_eq_zero h0
    exact ⟨none, 0, rfl, fun j e hj => by cases hj⟩
  · refine ⟨some ⟨g, 0, none⟩, cap, rfl, fun j e hj => ⟨g, 0, rfl, ?_⟩⟩
    have hR : RowE wr g cap l := ⟨cur, hg, r3, r4⟩
    rw [Nat.zero_add]
    exact hR.cells hj
set_option maxHeartbeats 1000000 in
theorem inorder_any (v0 : Value) (zs : List E3) (hz : zs.length ≤ 1000000) (w : World) (hI : EdgesAt w v0 zs) :
    Calls Tryz.prog 19 #[v0] w fun e w' => ∃ v, e = .returned v ∧ w'.ownsRow w.heap.size 41 3 v (Gm.ordE zs).length (flat (Gm.ordE zs)) ∧ Below w.heap.size w w' := by
  obtain ⟨a0, cap, rfl, hed⟩ := id hI
  have HV : Hid (Calls Tryz.prog 39 _ w _) := callsIn_wide.1 (values_in Fence.wide 9 trivial rfl a0 zs.length cap w)
  have hB1 := below1 w (.cells #[.slice a0 zs.length cap] 27)
  have HS : Hid (Calls Tryz.prog 38 _ (w.alloc (.cells #[.slice a0 zs.length cap] 27)) _) := sorted_any w.heap.size (.slice a0 zs.length cap) zs hz (w.alloc (.cells #[.slice a0 zs.length cap] 27)) (by simp) (by simp) (hI.below hB1) (fun b0 len2 cap2 e hne => by
    cases e
    cases zs with
    | nil => exact absurd rfl hne
    | cons z zs =>
      obtain ⟨g, off, e2, c0, _⟩ := hed 0 z rfl
      cases e2
      have := World.block_lt_of_cell? _ _ c0
      simp at this ⊢
      omega)
  have HB1 : Hid _ := hB1
  clear hed hI hB1
  go_enter Tryz.func19, Tryz.ntmps19
  go_wp2_with fail
  refine (Calls.mono HV.out ?_)
  rintro e w1 ⟨rfl, hw⟩
  rw [hw]
  clear hw w1
  go_wp2_with fail
  refine (Calls.mono HS.out ?_)
  rintro e w2 ⟨v, rfl, hrow, hB2⟩
  have hm : (zs.mergeSort fun x y => !Gm.ltE y x).length = zs.length := List.length_mergeSort _
  rw [← hm] at hrow
  have HC : Hid (Calls Tryz.prog 37 _ w2 _) := compact_own _ _ v w2 hrow (by omega)
  have hb2 := HB1.out.trans (hB2.mono (by simp))
  have HB2 : Hid _ := hb2
  have HBk : Hid (∀ k, v.ownBlock = some k → w.heap.size ≤ k) := (fun k hk => by have := (hrow.lt k hk).1; simp at this; omega : ∀ k, v.ownBlock = some k → w.heap.size ≤ k)
  clear hrow hB2 hb2
  go_wp2_with fail
  refine (Calls.mono HC.out ?_)
  rintro e w3 ⟨v', rfl, hrow3, hg3⟩
  go_wp2
  go_ret
  refine ⟨v', rfl, ?_, HB2.out.grown hg3 HB2.out.size HBk.out⟩
  refine ⟨hrow3.1, ?_⟩
  rcases hrow3.2 with h0 | ⟨g, cap, cur, hv, hb, r⟩
  · exact .inl h0
  · exact .inr ⟨g, cap, cur, hv, by simp at hb; omega, r⟩
end Go.Proofs.YtphjbbbnbmafnabGreatDoor.G

namespace Go.Proofs.YtphjbbbnbmafnabGreatDoor.G
open Go.RowKit

theorem chain' {v : World} {w a b : World} (h1 : Below v.heap.size w a) (h2 : Below a.heap.size a b) (hs : v.heap.size ≤ w.heap.size := by exact Nat.le_refl _) : Below v.heap.size w b := h1.trans (h2.mono (Nat.le_trans hs h1.size))
/-- may these be a graph? -/
abbrev okG (n s : Int) (l : List E3) : Prop := Gm.sizeOk n s l.length ∧ ∀ e ∈ l, Gm.edgeOk n s e
def imgOf (n s : Int) (l : List E3) : ByteArray := if okG n s l then built n.toNat s.toNat l else ⟨#[]⟩
def errOf (n s : Int) (l : List E3) : Int := if okG n s l then 0 else 2
theorem gbits_le (n s : Nat) (l : List E3) (h0 : Gm.ah l 0 = 0) (hn : Gm.ah l n = l.length) (h1 : n ≤ 10000) (h2 : s ≤ 26) (h3 : l.length ≤ 20000) : (gbits n s l).length ≤ 2016000 := by
  rw [gbits_len n s l h0 hn]
  have hw1 := wid_le (s - 1) (by omega)
  have hw2 := wid_le (n - 1) (by omega)
  have e1 : wid (s - 1) * l.length ≤ 20 * 20000 := Nat.mul_le_mul hw1 h3
  have e2 : wid (n - 1) * l.length ≤ 20 * 20000 := Nat.mul_le_mul hw2 h3
  omega
set_option maxHeartbeats 4000000 in
set_option maxRecDepth 100000 in
theorem build_any (n s : Int) (l : List E3) (v : Value) (w : World) (he : EdgesAt w v l) :
    Calls Tryz.prog 5 #[.int .i64 n, .int .i64 s, v] w fun e w' => e = .returned (.tuple #[.string (imgOf n s l), .int .i64 (errOf n s l)]) ∧ Below w.heap.size w w' := by
  have HEd : Hid _ := he
  obtain ⟨a0, cap, rfl, hed⟩ := he
  have HE : Hid _ := hed
  have hb8 := below1 w (.cells #[.int .i64 n, .int .i64 s, .int .i64 (l.length : Int)] 43)
  have HSz : Hid (Calls Tryz.prog 15 _ (w.alloc (.cells #[.int .i64 n, .int .i64 s, .int .i64 (l.length : Int)] 43)) _) := isize_any n s l.length _
  have hbx : ∀ W, Below (w.alloc (.cells #[.int .i64 n, .int .i64 s, .int .i64 (l.length : Int)] 43)).heap.size (w.alloc (.cells #[.int .i64 n, .int .i64 s, .int .i64 (l.length : Int)] 43)) W → W.cell? ⟨w.heap.size, 0, none⟩ = some (.int .i64 n) ∧ W.cell? ⟨w.heap.size, 1, none⟩ = some (.int .i64 s) ∧ W.cell? ⟨w.heap.size, 2, none⟩ = some (.int .i64 (l.length : Int)) := fun W hW =>
    ⟨cell_kept hW _ _ (by simp), cell_kept hW _ _ (by simp), cell_kept hW _ _ (by simp)⟩
  have HBx : Hid _ := hbx
  have HB8 : Hid _ := hb8
  clear hed hb8 hbx
  by_cases hsz : Gm.sizeOk n s l.length
  · have HD : Hid _ := decide_eq_true hsz
    rw [HD.out] at HSz
    have HOk : Hid _ := hsz
    have hl2 : l.length ≤ 20000 := hsz.2.2.2.2
    clear hsz
    go_enter Tryz.func5, Tryz.ntmps5
    go_wp2_with fail
    refine (Calls.mono HSz.out ?_)
    rintro e w1 ⟨rfl, hB1⟩
    have HB1 : Hid _ := hB1
    clear hB1
    go_wp2
    go_loopw [21] (fun si wr => ∃ i : Nat, i ≤ l.length ∧ si = .int .i64 (i : Int) ∧ Hid ((∀ e ∈ l.take i, Gm.edgeOk n s e) ∧ Below (w.alloc (.cells #[.int .i64 n, .int .i64 s, .int .i64 (l.length : Int)] 43)).heap.size (w.alloc (.cells #[.int .i64 n, .int .i64 s, .int .i64 (l.length : Int)] 43)) wr)) (fun si _ => l.length - (intOf si).toNat)
    case atStart => exact ⟨0, Nat.zero_le _, rfl, (fun e he => by simp at he), HB1.out⟩
    case round =>
      obtain ⟨i, hi, rfl, HI⟩ := hrel
      have hBw : Below w.heap.size w wr := chain HB8.out HI.out.2
      obtain ⟨s0, s1, s2⟩ := HBx.out wr HI.out.2
      by_cases hlt : i < l.length
      · obtain ⟨x, hx⟩ : ∃ x, l[i]? = some x := ⟨_, List.getElem?_eq_getElem hlt⟩
        obtain ⟨g, off, rfl, c0, c1, c2⟩ := HE.out i x hx
        have d0 := cell_kept hBw _ _ c0
        have d1 := cell_kept hBw _ _ c1
        have d2 := cell_kept hBw _ _ c2
        have hiI : (i : Int) < (l.length : Int) := by omega
        have hT := take_snoc' hx
        have hmem := List.mem_of_getElem? hx
        obtain ⟨x1, x2, x3⟩ := x
        simp only at d0 d1 d2
        obtain ⟨b0, b1, b2⟩ := box3 wr (.int .i64 x1) (.int .i64 x2) (.int .i64 x3) 41
        have t0 := cell_al (o := .cells #[.int .i64 x1, .int .i64 x2, .int .i64 x3] 41) s0
        have t1 := cell_al (o := .cells #[.int .i64 x1, .int .i64 x2, .int .i64 x3] 41) s1
        have t2 := cell_al (o := .cells #[.int .i64 x1, .int .i64 x2, .int .i64 x3] 41) s2
        have HEg : Hid (Calls Tryz.prog 16 _ (wr.alloc (.cells #[.int .i64 x1, .int .i64 x2, .int .i64 x3] 41)) _) := iedge_any x1 x2 x3 n s (l.length : Int) _
        have HBa : Hid _ := HI.out.2.alloc HI.out.2.size (.cells #[.int .i64 x1, .int .i64 x2, .int .i64 x3] 41)
        have HBw : Hid _ := hBw
        by_cases hok : Gm.edgeOk n s (x1, x2, x3)
        · rw [decide_eq_true hok] at HEg
          have HI2 : Hid (∀ e ∈ l.take (i + 1), Gm.edgeOk n s e) := (fun e he => by
            rw [hT] at he
            rcases List.mem_append.1 he with h | h
            · exact HI.out.1 e h
            · simp at h; rw [h]; exact hok : ∀ e ∈ l.take (i + 1), Gm.edgeOk n s e)
          clear hok c0 c1 c2 hx hT hmem hBw
          go_wp2_with fail
          refine (Calls.mono HEg.out ?_)
          rintro e w3 ⟨rfl, hB3⟩
          have HB3 : Hid _ := chain' HBa.out hB3
          clear hB3
          go_wp2
          go_roundw
          case rel => exact ⟨i + 1, by omega, by go_num, HI2.out, HB3.out⟩
          case measure => simp [intOf] <;> omega
        · rw [decide_eq_false hok] at HEg
          have HN : Hid (¬ okG n s l) := (fun h => hok (h.2 _ hmem) : ¬ okG n s l)
          clear hok c0 c1 c2 hx hT hmem hBw
          go_wp2_with fail
          refine (Calls.mono HEg.out ?_)
          rintro e w3 ⟨rfl, hB3⟩
          have HB3 : Hid _ := chain' HBa.out hB3
          clear hB3
          go_wp2
          go_ret2
          exact ⟨by rw [imgOf, if_neg HN.out, errOf, if_neg HN.out]; rfl, chain HB8.out HB3.out⟩
      · obtain rfl : i = l.length := by omega
        have hI := HI.out.1
        rw [List.take_length] at hI
        have hOk : okG n s l := ⟨HOk.out, hI⟩
        have hEw := EdgesAt.below HEd.out hBw
        have HIn : Hid (Calls Tryz.prog 19 _ wr _) := inorder_any _ l (by omega) wr hEw
        have HGo : Hid _ := hOk
        have HBw : Hid _ := hBw
        obtain ⟨n', hn'⟩ : ∃ n' : Nat, n = (n' : Int) := ⟨n.toNat, by have := HOk.out.1; omega⟩
        obtain ⟨s', hs'⟩ : ∃ s' : Nat, s = (s' : Int) := ⟨s.toNat, by have := HOk.out.2.2.1; omega⟩
        clear hI hOk hEw hBw s0 s1 s2
        go_wp2_with fail
        refine (Calls.mono HIn.out ?_)
        rintro e w3 ⟨v3, rfl, hrow, hB3⟩
        have hE3 : EdgesAt w3 v3 (Gm.ordE l) := ownE_edges hrow
        subst hn' hs'
        have hall : ∀ e ∈ Gm.ordE l, Gm.edgeOk n' s' e := fun e he => HGo.out.2 e ((Gm.ordE_mem l e).1 he)
        have hlen := Gm.ordE_len l
        have HT : Hid (Calls Tryz.prog 18 _ w3 _) := textof_any n' s' (Gm.ordE l) v3 w3 hE3 (Gm.ordE_strict l) hall (by have := HOk.out.1; omega) (by have := HOk.out.2.1; omega) (by have := HOk.out.2.2.1; omega) (by have := HOk.out.2.2.2.1; omega) (by omega)
        have HP : ∀ W, Hid (Calls Tryz.prog 17 #[.string (txt (gbits n' s' (Gm.ordE l)))] W _) := fun W => pwrite_any (gbits n' s' (Gm.ordE l)) (gbits_le n' s' _ (Gm.ah_zero _ (fun e h => (hall e h).1)) (Gm.ah_all _ n' (fun e h => (hall e h).2.1)) (by have := HOk.out.2.1; omega) (by have := HOk.out.2.2.2.1; omega) (by omega)) W
        have HB3 : Hid _ := chain HBw.out hB3
        clear hE3 hrow hB3 hall hlen
        go_wp2_with fail
        refine (Calls.mono HT.out ?_)
        rintro e w4 ⟨rfl, hB4⟩
        have HB4 : Hid _ := chain HB3.out hB4
        clear hB4
        go_wp2_with fail
        refine (Calls.mono (HP w4).out ?_)
        rintro e w5 ⟨rfl, hB5⟩
        have HB5 : Hid _ := chain HB4.out hB5
        clear hB5
        go_wp2
        go_ret2
        exact ⟨by rw [imgOf, if_pos HGo.out, errOf, if_pos HGo.out, built, Int.toNat_natCast, Int.toNat_natCast]; rfl, HB5.out⟩
  · have HD : Hid _ := decide_eq_false hsz
    rw [HD.out] at HSz
    have HN : Hid (¬ okG n s l) := (fun h => hsz h.1 : ¬ okG n s l)
    clear hsz
    go_enter Tryz.func5, Tryz.ntmps5
    go_wp2_with fail
    refine (Calls.mono HSz.out ?_)
    rintro e w1 ⟨rfl, hB1⟩
    have HB1 : Hid _ := chain HB8.out hB1
    clear hB1
    go_wp2
    go_ret2
    exact ⟨by rw [imgOf, if_neg HN.out, errOf, if_neg HN.out]; rfl, HB1.out⟩
end Go.Proofs.YtphjbbbnbmafnabGreatDoor.G

namespace Go.Proofs.YtphjbbbnbmafnabGreatDoor.G
open Go.RowKit

attribute [local go_sem ↓] Go.wp_at_zero Go.wp_at_succ
/-- a row of numbers that is handed in -/
abbrev RawAt (w : World) (a0 : Option Addr) (len : Nat) (R : Nat → Int) : Prop := (len = 0 ∨ ∃ b off, a0 = some ⟨b, off, none⟩ ∧ ∀ i, i < len → w.cell? ⟨b, off + i, none⟩ = some (.int .i64 (R i))) ∧ ∀ i, i < len → -9223372036854775808 ≤ R i ∧ R i ≤ 9223372036854775807
theorem own_edges' {B : Nat} {wr : World} {v : Value} {l : List E3} (h : wr.ownsRow B 41 3 v l.length (flat l)) : EdgesAt wr v l := by
  rcases h.2 with ⟨rfl, h0⟩ | ⟨g, cap, cur, rfl, _, hg, r1, r2, r3, r4⟩
  · obtain rfl : l = [] := List.eq_nil_of_length_eq_zero h0
    exact ⟨none, 0, rfl, fun j e hj => by cases hj⟩
  · refine ⟨some ⟨g, 0, none⟩, cap, rfl, fun j e hj => ⟨g, 0, rfl, ?_⟩⟩
    have hR : RowE wr g cap l := ⟨cur, hg, r3, r4⟩
    rw [Nat.zero_add]
    exact hR.cells hj
set_option maxHeartbeats 4000000 in
set_option maxRecDepth 100000 in
theorem made_any (a0 : Option Addr) (len cap : Nat) (R : Nat → Int) (w : World) (hr : RawAt w a0 len R) :
    Calls Tryz.prog 6 #[.slice a0 len cap] w fun e w' => ∃ v l, e = .returned v ∧ EdgesAt w' v l ∧ l.length ≤ 500 ∧ (∀ e ∈ l, Gm.edgeOk 50 4 e) ∧ Below w.heap.size w w' := by
  obtain ⟨hrow, hR⟩ := hr
  have HRow : Hid _ := hrow
  have HR : Hid _ := hR
  clear hrow hR
  obtain ⟨i0, hi, hz0, hz1, hz2⟩ := info_parts Tryz.infoE
  go_enter Tryz.func6, Tryz.ntmps6
  go_wp2
  go_loopw [3, 4] (fun sv si wr => ∃ (j : Nat) (l : List E3), j ≤ 1500 ∧ l.length ≤ 500 ∧ si = .int .i64 (j : Int) ∧ (∃ a1 c1, sv = .slice a1 l.length c1) ∧ Hid (j = 3 * l.length ∧ OwnE w wr sv l ∧ ∀ e ∈ l, Gm.edgeOk 50 4 e)) (fun _ si _ => 1500 - (intOf si).toNat)
  case atStart => exact ⟨0, [], Nat.zero_le _, Nat.zero_le _, rfl, ⟨none, 0, rfl⟩, rfl, ⟨World.ownsRow_nil _ _ _ _, Below.refl _ _⟩, fun e he => by cases he⟩
  case round =>
    obtain ⟨j, l, hj, hl, rfl, ⟨a1, cap1, rfl⟩, HI⟩ := hrel
    by_cases hgo : j + 2 < len ∧ j < 1500
    · obtain ⟨h1, h2⟩ := hgo
      rcases HRow.out with h0 | ⟨b, off, rfl, hc⟩
      · omega
      have c0 := cell_kept HI.out.2.1.2 _ _ (hc j (by omega))
      have c1 := cell_kept HI.out.2.1.2 _ _ (hc (j + 1) (by omega))
      have c2 := cell_kept HI.out.2.1.2 _ _ (hc (j + 2) (by omega))
      rw [show j + 2 = ((j : Int) + 2).toNat by omega] at c2
      have hbl := World.block_lt_of_cell? _ _ (hc j (by omega))
      have e0 := HR.out j (by omega)
      have e1 := HR.out (j + 1) (by omega)
      have e2 := HR.out (j + 2) (by omega)
      generalize R j = x0 at c0 e0
      generalize R (j + 1) = x1 at c1 e1
      rw [show j + 2 = ((j : Int) + 2).toNat by omega] at e2
      generalize R (((j : Int) + 2).toNat) = x2 at c2 e2
      have P0 : Hid (∀ W, Calls Tryz.prog 8 #[.int .i64 x0, .int .i64 50] W _) := fun W => pick_fn x0 50 e0 (by decide) (by decide) 50 rfl W
      have P1 : Hid (∀ W, Calls Tryz.prog 8 #[.int .i64 x1, .int .i64 4] W _) := fun W => pick_fn x1 4 e1 (by decide) (by decide) 4 rfl W
      have P2 : Hid (∀ W, Calls Tryz.prog 8 #[.int .i64 x2, .int .i64 50] W _) := fun W => pick_fn x2 50 e2 (by decide) (by decide) 50 rfl W
      have hp0 := pk_lt x0 50 (by decide)
      have hp1 := pk_lt x1 4 (by decide)
      have hp2 := pk_lt x2 50 (by decide)
      have hrw := HI.out.2.1.1
      have hszw := HI.out.2.1.2.size
      have hne : (Value.slice a1 l.length cap1).ownBlock ≠ some b := fun e => by have := (hrw.lt b e).1; simp at hbl; omega
      have l0 : (j : Int) < (len : Int) := by omega
      have l1 : (j : Int) + 1 < (len : Int) := by omega
      have l2 : (j : Int) + 2 < (len : Int) := by omega
      have l3 : (j : Int) < 1500 := by omega
      have k0 : (0 : Int) ≤ (j : Int) := by omega
      have k1 : (0 : Int) ≤ (j : Int) + 1 := by omega
      have k2 : (0 : Int) ≤ (j : Int) + 2 := by omega
      have m1 : IntKind.i64.wrap ((j : Int) + 1) = (j : Int) + 1 := by rw [IntKind.wrap_i64]; omega
      have m2 : IntKind.i64.wrap ((j : Int) + 2) = (j : Int) + 2 := by rw [IntKind.wrap_i64]; omega
      clear e0 e1 e2 hc
      go_wp2_with fail
      go_region_held3 (fun w' => w'.cell? ⟨b, off + j, none⟩ = some (.int .i64 x0) ∧ w'.cell? ⟨b, off + (j + 1), none⟩ = some (.int .i64 x1) ∧ w'.cell? ⟨b, off + ((j : Int) + 2).toNat, none⟩ = some (.int .i64 x2))
        (first
          | go_keep
          | (go_split_ands
             refine ⟨?_, ?_, ?_⟩
             · (rw [hgrow.cell_far _ (by simp; omega) (Ne.symm hne)]; assumption)
             · (rw [hgrow.cell_far _ (by simp; omega) (Ne.symm hne)]; assumption)
             · (rw [hgrow.cell_far _ (by simp; omega) (Ne.symm hne)]; assumption)))
        (first
          | (go_at_call_of 8 (Value.int IntKind.i64 x0); refine (P0.out _).mono ?_; rintro e w' ⟨rfl, rfl⟩)
          | (go_at_call_of 8 (Value.int IntKind.i64 x1); refine (P1.out _).mono ?_; rintro e w' ⟨rfl, rfl⟩)
          | (go_at_call_of 8 (Value.int IntKind.i64 x2); refine (P2.out _).mono ?_; rintro e w' ⟨rfl, rfl⟩)
          | ((refine step_append_lies _ (by rfl) _ _ _ (by rfl) w.heap.size 41 i0 _ 3 24 Tryz.underlying27 hi hz0 hz1 hz2 rfl (by omega) (.slice a1 l.length cap1) l.length (flat l) (by rfl) (((hrw.alloc _).drew).drew) ⟨wr.heap.size, 0, none⟩ 1 1 [.int .i64 (pk x0 50 : Int), .int .i64 (pk x1 4 : Int), .int .i64 (pk x2 50 : Int)] (by rfl) (by rfl) (World.news_of_block (cs := #[.int .i64 (pk x0 50 : Int), .int .i64 (pk x1 4 : Int), .int .i64 (pk x2 50 : Int)]) (t := 41) (fr := (0, 0)) (heap_alloc_new wr _)) (by simp [Value.oneCell']) (by omega) (by unfold maxLen; omega) (by omega) (by simp; omega) (wr.heap.size + 1) (by simp) ?_; intro gg gcap w1 hown1 hgrow hat hlt)))
      have HO : Hid (OwnE w w1 (.slice (some ⟨gg, 0, none⟩) (l.length + 1) gcap) (l ++ [((pk x0 50 : Int), (pk x1 4 : Int), (pk x2 50 : Int))])) := (by
        refine ⟨by rw [flat_snoc, List.length_append]; exact hown1, ?_⟩
        exact ((HI.out.2.1.2.alloc HI.out.2.1.2.size _).drew).grown hgrow (by simp; omega) (fun k hk => (hrw.lt k hk).1) : OwnE _ _ _ _)
      have HA : Hid (∀ e ∈ l ++ [((pk x0 50 : Int), (pk x1 4 : Int), (pk x2 50 : Int))], Gm.edgeOk 50 4 e) := (by
        intro e he
        rcases List.mem_append.1 he with h | h
        · exact HI.out.2.2 e h
        · rw [List.mem_singleton.1 h]
          refine ⟨?_, ?_, ?_, ?_, ?_, ?_⟩ <;> simp only <;> omega : ∀ e ∈ _, _)
      have HJ : Hid (j = 3 * l.length) := HI.out.1
      clear hown1 hgrow hat hlt hrw HI P0 P1 P2
      go_wp2
      go_roundw
      case rel => exact ⟨j + 3, l ++ [((pk x0 50 : Int), (pk x1 4 : Int), (pk x2 50 : Int))], by have := HJ.out; omega, by have := HJ.out; rw [List.length_append]; simp; omega, by go_num, ⟨_, gcap, by rw [List.length_append]; rfl⟩, by have := HJ.out; rw [List.length_append]; simp; omega, HO.out, HA.out⟩
      case measure => simp [intOf]; omega
    · have HE : Hid _ := own_edges' HI.out.2.1.1
      have HB : Hid _ := HI.out.2.1.2
      have HA : Hid _ := HI.out.2.2
      clear HI
      by_cases h1 : j + 2 < len
      · have h2 : ¬ (j : Int) < 1500 := by omega
        have h3 : (j : Int) + 2 < (len : Int) := by omega
        clear hgo
        go_wp2
        go_ret
        exact ⟨_, rfl, l, HE.out, hl, fun a b c h => HA.out (a, b, c) h, HB.out⟩
      · have h3 : ¬ (j : Int) + 2 < (len : Int) := by omega
        clear hgo
        go_wp2
        go_ret
        exact ⟨_, rfl, l, HE.out, hl, fun a b c h => HA.out (a, b, c) h, HB.out⟩
end Go.Proofs.YtphjbbbnbmafnabGreatDoor.G

namespace Go.Proofs.YtphjbbbnbmafnabGreatDoor.G
open Go.RowKit

/-- the document's example -/
theorem first_img : imgOf 2 1 [(0, 0, 1)] = image (gbits 2 1 [(0, 0, 1)]) := by
  have h : okG 2 1 [(0, 0, 1)] := by decide
  unfold imgOf built
  rw [if_pos h, Gm.ordE_self [(0, 0, 1)] (List.pairwise_singleton _ _)]
  rfl
theorem first_size : (imgOf 2 1 [(0, 0, 1)]).size = 256 := by
  rw [first_img, image_size]
  have h := gbits_len 2 1 [(0, 0, 1)] (by decide) (by decide)
  rw [h]
  decide
theorem first_head : (imgOf 2 1 [(0, 0, 1)]).extract 0 5 = ⟨#[0, 8, 32, 0, 100]⟩ := by
  rw [first_img]
  decide +kernel
end Go.Proofs.YtphjbbbnbmafnabGreatDoor.G

namespace Go.Proofs.YtphjbbbnbmafnabGreatDoor.G
open Go.RowKit

set_option maxHeartbeats 1000000 in
set_option maxRecDepth 100000 in
theorem known_any (w : World) : Calls Tryz.prog 4 #[] w fun e w' => e = .returned (.bool true) ∧ Below w.heap.size w w' := by
  have hB1 := below1 w (.cells #[.int .i64 0, .int .i64 0, .int .i64 1] 41)
  have hE : EdgesAt (w.alloc (.cells #[.int .i64 0, .int .i64 0, .int .i64 1] 41)) (.slice (some ⟨w.heap.size, 0, none⟩) 1 1) [(0, 0, 1)] := by
    refine ⟨_, 1, rfl, fun j e hj => ?_⟩
    match j, hj with
    | 0, hj =>
      simp at hj; subst hj
      exact ⟨w.heap.size, 0, rfl, by simp, by simp, by simp⟩
  have hBd := build_any 2 1 [(0, 0, 1)] _ _ hE
  rw [show errOf 2 1 [(0, 0, 1)] = 0 by decide] at hBd
  have HBt : Hid (Calls Tryz.prog 5 _ (w.alloc (.cells #[.int .i64 0, .int .i64 0, .int .i64 1] 41)) _) := hBd
  have hs := first_size
  have hh := first_head
  clear hBd
  generalize imgOf 2 1 [(0, 0, 1)] = img at HBt hs hh
  have HB1 : Hid _ := hB1
  clear hE hB1
  go_enter Tryz.func4, Tryz.ntmps4
  go_wp2_with fail
  refine (Calls.mono HBt.out ?_)
  rintro e w2 ⟨rfl, hB2⟩
  have HB2 : Hid _ := chain HB1.out hB2
  clear hB2
  go_wp2
  go_ret
  exact ⟨rfl, HB2.out⟩
end Go.Proofs.YtphjbbbnbmafnabGreatDoor.G
