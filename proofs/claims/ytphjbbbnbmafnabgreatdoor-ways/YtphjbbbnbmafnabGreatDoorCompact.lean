/-
  slices.Compact over a row of edges of one's own, walked: what is the same as the one ahead of it falls; nothing else that was there is written.
-/
import Derived.Test.YtphjbbbnbmafnabGreatDoorComp
import Derived.BigQuiet
namespace Go.Proofs.YtphjbbbnbmafnabGreatDoor.G
open Go.RowKit

theorem dd_short (l : List E3) (h : l.length < 2) : Gm.dd l = l := by
  match l, h with
  | [], _ => rfl
  | [a], _ => rfl
theorem dd_step {l : List E3} {m : Nat} {x y : E3} (hx : l[m]? = some x) (hy : l[m - 1]? = some y) (hm : 0 < m) : Gm.dd (l.take (m + 1)) = Gm.dd (l.take m) ++ (if x = y then [] else [x]) := by
  have hl := len_of hx
  have hne : l.take m ≠ [] := by
    intro e
    have := congrArg List.length e
    rw [List.length_take, List.length_nil] at this
    omega
  rw [take_snoc' hx, Gm.dd_snoc _ hne]
  have : (l.take m).getLast hne = y := by
    rw [List.getLast_eq_getElem]
    have h2 : l[m - 1]? = some y := hy
    rw [List.getElem?_eq_getElem (by omega)] at h2
    simp only [List.getElem_take, List.length_take]
    have e : min m l.length - 1 = m - 1 := by omega
    simp only [e]
    exact Option.some.inj h2
  rw [this]
set_option maxHeartbeats 8000000 in
set_option maxRecDepth 100000 in
theorem compact_own (l : List E3) (base : Nat) (v : Value) (W : World) (hrow : W.ownsRow base 41 3 v l.length (flat l)) (hl : l.length ≤ 1000000) :
    Calls Tryz.prog 37 #[v] W fun e w' => ∃ v', e = .returned v' ∧ w'.ownsRow base 41 3 v' (Gm.dd l).length (flat (Gm.dd l)) ∧ W.grownBy w' v.ownBlock := by
  by_cases h2 : l.length < 2
  · have HD : Hid _ := dd_short l h2
    have HR : Hid _ := hrow
    rw [HD.out]
    have h2I : (l.length : Int) < 2 := by omega
    obtain ⟨a0, cap, rfl⟩ : ∃ a0 cap, v = .slice a0 l.length cap := by
      rcases hrow.2 with ⟨rfl, h0⟩ | ⟨g, cap, cur, rfl, _⟩
      · exact ⟨none, 0, by rw [h0]⟩
      · exact ⟨_, _, rfl⟩
    clear hrow
    go_enter Tryz.func37, Tryz.ntmps37
    go_wp2
    go_ret
    exact ⟨_, rfl, HR.out, ⟨rfl, rfl, rfl, Nat.le_refl _, fun _ _ _ => rfl⟩⟩
  · have h2I : ¬ (l.length : Int) < 2 := by omega
    obtain ⟨g, cap, cur, rfl, hbase, hgb, r1, r2, r3, r4⟩ : ∃ g cap cur, v = .slice (some ⟨g, 0, none⟩) l.length cap ∧ base ≤ g ∧ W.heap[g]? = some (.cells cur 41 (0, 0)) ∧ l.length ≤ cap ∧ cap ≤ maxLen ∧ cur.size = cap * 3 ∧ cur.toList.take (l.length * 3) = flat l := by
      rcases hrow.2 with ⟨rfl, h0⟩ | h
      · omega
      · exact h
    have HR0 : Hid (RowE W g cap l) := ⟨cur, hgb, r3, r4⟩
    have HB : Hid _ := hrow
    have gE := guardE
    clear hrow hgb r3 r4
    go_enter Tryz.func37, Tryz.ntmps37
    go_wp2
    go_loopw [3] (fun sk wr => ∃ k q : Nat, 1 ≤ k ∧ k ≤ l.length ∧ sk = .int .i64 (k : Int) ∧ wr = W.drewN q ∧ Hid (Gm.dd (l.take k) = l.take k)) (fun sk _ => l.length - (intOf sk).toNat)
    case atStart => exact ⟨1, 0, Nat.le_refl _, by omega, rfl, rfl, (dd_short _ (by simp; omega) : Gm.dd (l.take 1) = l.take 1)⟩
    case round =>
      obtain ⟨k, q, hk1, hk2, rfl, rfl, HI⟩ := hrel
      by_cases hlt : k < l.length
      · obtain ⟨x, hx⟩ : ∃ x, l[k]? = some x := ⟨_, List.getElem?_eq_getElem hlt⟩
        obtain ⟨y, hy⟩ : ∃ y, l[k - 1]? = some y := ⟨_, List.getElem?_eq_getElem (by omega)⟩
        obtain ⟨c0, c1, c2⟩ := HR0.out.cells hx
        obtain ⟨d0, d1, d2⟩ := HR0.out.cells hy
        have HT := dd_step hx hy (by omega)
        have hkI : (k : Int) < (l.length : Int) := by omega
        have hk1I : (k : Int) - 1 = ((k - 1 : Nat) : Int) := by omega
        have hk1N : ((k - 1 : Nat) : Int) < (l.length : Int) := by omega
        obtain ⟨x1, x2, x3⟩ := x
        obtain ⟨y1, y2, y3⟩ := y
        simp only at c0 c1 c2 d0 d1 d2
        by_cases hxe : (x1, x2, x3) = (y1, y2, y3)
        · have hEq := eqlE x1 x2 x3 y1 y2 y3 true (decide_eq_true hxe)
          rw [if_pos hxe, List.append_nil] at HT
          have HT2 : Hid _ := HT
          clear hxe HT hx hy
          go_wp2
          go_quiet (fail)
          go_wp2
          go_loopw [3, 5] (fun sm sj wr => ∃ m j : Nat, 1 ≤ j ∧ k + j ≤ l.length ∧ sj = .int .i64 (j : Int) ∧ sm = .int .i64 (m : Int) ∧ m < k + j ∧ Hid (m = (Gm.dd (l.take (k + j))).length ∧ RowE wr g cap (Gm.dd (l.take (k + j)) ++ l.drop m) ∧ W.grownBy wr (some g))) (fun _ sj _ => l.length - (intOf sj).toNat)
          case atStart =>
            refine ⟨k, 1, Nat.le_refl _, by omega, rfl, rfl, by omega, ?_⟩
            have e : Gm.dd (l.take (k + 1)) = l.take k := by rw [HT2.out, HI.out]
            have e2 : l.take k ++ l.drop k = l := List.take_append_drop k l
            exact (show _ ∧ _ ∧ _ from ⟨by rw [e, List.length_take]; omega, by rw [e, e2]; exact HR0.out, gb_drewN _ _ _⟩)
          case round =>
            obtain ⟨m, j, hj1, hj2, rfl, rfl, hmj, HM⟩ := hrel
            have hmk : ((l.length - k : Nat) : Int) = (l.length : Int) - (k : Int) := by omega
            by_cases hlt2 : k + j < l.length
            · obtain ⟨x, hx⟩ : ∃ x, l[k + j]? = some x := ⟨_, List.getElem?_eq_getElem hlt2⟩
              obtain ⟨y, hy⟩ : ∃ y, l[k + j - 1]? = some y := ⟨_, List.getElem?_eq_getElem (by omega)⟩
              have hLx : (Gm.dd (l.take (k + j)) ++ l.drop m)[k + j]? = some x := by
                rw [List.getElem?_append_right (by rw [← HM.out.1]; omega), ← HM.out.1, List.getElem?_drop, show m + (k + j - m) = k + j by omega]; exact hx
              have hLy : (Gm.dd (l.take (k + j)) ++ l.drop m)[k + j - 1]? = some y := by
                rw [List.getElem?_append_right (by rw [← HM.out.1]; omega), ← HM.out.1, List.getElem?_drop, show m + (k + j - 1 - m) = k + j - 1 by omega]; exact hy
              obtain ⟨c0, c1, c2⟩ := HM.out.2.1.cells hLx
              obtain ⟨d0, d1, d2⟩ := HM.out.2.1.cells hLy
              rw [show (k + j) * 3 = k * 3 + j * 3 by omega] at c0 c1 c2
              rw [show (k + j - 1) * 3 = k * 3 + (j - 1) * 3 by omega] at d0 d1 d2
              have HT := dd_step hx hy (by omega)
              have hjI : (j : Int) < ((l.length - k : Nat) : Int) := by omega
              have hj1I : (j : Int) - 1 = ((j - 1 : Nat) : Int) := by omega
              have hj1N : ((j - 1 : Nat) : Int) < ((l.length - k : Nat) : Int) := by omega
              have hmI : (m : Int) < (l.length : Int) := by omega
              obtain ⟨x1, x2, x3⟩ := x
              obtain ⟨y1, y2, y3⟩ := y
              simp only at c0 c1 c2 d0 d1 d2
              by_cases hxe : (x1, x2, x3) = (y1, y2, y3)
              · have hEq2 := eqlE x1 x2 x3 y1 y2 y3 true (decide_eq_true hxe)
                rw [if_pos hxe, List.append_nil] at HT
                have HT3 : Hid (Gm.dd (l.take (k + (j + 1))) = Gm.dd (l.take (k + j))) := HT
                clear hxe HT hx hy hLx hLy hmk hEq
                go_wp2
                go_quiet (fail)
                go_wp2
                go_roundw
                case rel =>
                  refine ⟨m, j + 1, by omega, by omega, by go_num, rfl, by omega, ?_⟩
                  rw [HT3.out]
                  exact (show _ ∧ _ ∧ _ from ⟨HM.out.1, HM.out.2.1.drewN _, gb_trans HM.out.2.2 (gb_drewN _ _ _)⟩)
                case measure => simp [intOf] <;> omega
              · have hEq2 := eqlE x1 x2 x3 y1 y2 y3 false (decide_eq_false hxe)
                rw [if_neg hxe] at HT
                have HT3 : Hid (Gm.dd (l.take (k + (j + 1))) = Gm.dd (l.take (k + j)) ++ [(x1, x2, x3)]) := HT
                obtain ⟨z, hz⟩ : ∃ z, l[m]? = some z := ⟨_, List.getElem?_eq_getElem (by omega)⟩
                have hLz : (Gm.dd (l.take (k + j)) ++ l.drop m)[m]? = some z := by
                  rw [List.getElem?_append_right (by rw [← HM.out.1]; exact Nat.le_refl _), ← HM.out.1, List.getElem?_drop, Nat.sub_self]; exact hz
                obtain ⟨e0, e1, e2⟩ := HM.out.2.1.cells hLz
                have f0 := HM.out.2.1.frozen (m * 3)
                have f1 := HM.out.2.1.frozen (m * 3 + 1)
                have f2 := HM.out.2.1.frozen (m * 3 + 2)
                clear hxe HT hx hy hLx hLy hmk hEq hz hLz
                go_wp2
                go_quiet (fail)
                go_wp2
                have HP : Hid _ := (HM.out.2.1.drewN nq).put (k := m) (x1, x2, x3) (by rw [List.length_append, ← HM.out.1, List.length_drop]; omega)
                have HS : Hid ((Gm.dd (l.take (k + j)) ++ l.drop m).set m (x1, x2, x3) = Gm.dd (l.take (k + (j + 1))) ++ l.drop (m + 1)) := (by
                  rw [HT3.out, List.set_append_right _ _ (by rw [← HM.out.1]; exact Nat.le_refl _), ← HM.out.1, Nat.sub_self, List.append_assoc]
                  congr 1
                  rw [List.drop_eq_getElem_cons (by omega : m < l.length), List.set_cons_zero]; rfl : _ = _)
                go_roundw
                case rel =>
                  refine ⟨m + 1, j + 1, by omega, by omega, by go_num, by go_num, by omega, ?_⟩
                  have h1 := HP.out
                  rw [HS.out] at h1
                  exact (show _ ∧ _ ∧ _ from ⟨by rw [HT3.out, List.length_append, ← HM.out.1]; rfl, h1, gb_trans (gb_trans (gb_trans (gb_trans HM.out.2.2 (gb_drewN _ _ _)) (gb_set _ _ _ _)) (gb_set _ _ _ _)) (gb_set _ _ _ _)⟩)
                case measure => simp [intOf] <;> omega
            · have hkj : k + j = l.length := by omega
              have hM := HM.out
              rw [hkj, List.take_length] at hM
              obtain ⟨hm1, ⟨cur2, hg2, hs2, ht2⟩, hgr⟩ := hM
              have hmln : m < l.length := by omega
              have hLl : (Gm.dd l ++ l.drop m).length = l.length := by rw [List.length_append, List.length_drop, ← hm1]; omega
              rw [hLl] at ht2
              obtain ⟨vs, hvl, hclr⟩ := clear_rows wr g (m * 3) (l.length - m) (cap - m) 0 _ cur2 hg2 (by omega) (by rw [hs2]; omega)
              have hjI : ¬ (j : Int) < ((l.length - k : Nat) : Int) := by omega
              have hmI : (m : Int) ≤ (l.length : Int) := by omega
              have HF : Hid ((wr.setRow g (cur2.toList.take (m * 3) ++ vs ++ cur2.toList.drop (m * 3 + vs.length)).toArray).ownsRow base 41 3 (.slice (some ⟨g, 0, none⟩) m cap) (Gm.dd l).length (flat (Gm.dd l))) := (by
                refine ⟨flat_len _, .inr ⟨g, cap, _, by rw [hm1], hbase, setRow_heap _ _ _ _ _ _ hg2, by rw [← hm1]; omega, r2, ?_, ?_⟩⟩
                · simp [hs2, hvl]; omega
                · rw [← hm1]
                  have e1 : (cur2.toList.take (m * 3)).length = m * 3 := by simp [hs2]; omega
                  show ((cur2.toList.take (m * 3) ++ vs ++ cur2.toList.drop (m * 3 + vs.length)).toArray.toList).take (m * 3) = _
                  rw [List.append_assoc, show (cur2.toList.take (m * 3) ++ (vs ++ cur2.toList.drop (m * 3 + vs.length))).toArray.toList = cur2.toList.take (m * 3) ++ (vs ++ cur2.toList.drop (m * 3 + vs.length)) from rfl, List.take_append_of_le_length (by omega), List.take_of_length_le (by omega)]
                  have h3 := congrArg (List.take (m * 3)) ht2
                  rw [List.take_take, Nat.min_eq_left (by omega), flat_append, List.take_append_of_le_length (by rw [flat_len, ← hm1]; exact Nat.le_refl _)] at h3
                  have h4 : (flat (Gm.dd l)).take (m * 3) = flat (Gm.dd l) := List.take_of_length_le (by rw [flat_len, ← hm1]; exact Nat.le_refl _)
                  rw [h4] at h3
                  exact h3 : World.ownsRow _ _ _ _ _ _ _)
              have HGr : Hid (W.grownBy (wr.setRow g (cur2.toList.take (m * 3) ++ vs ++ cur2.toList.drop (m * 3 + vs.length)).toArray) (some g)) := gb_trans hgr (gb_row _ _ _)
              generalize (cur2.toList.take (m * 3) ++ vs ++ cur2.toList.drop (m * 3 + vs.length)).toArray = fin at hclr HF HGr
              clear hkj hm1 hg2 hs2 ht2 hgr hLl hvl hEq
              go_wp2
              go_ret
              exact ⟨_, rfl, HF.out, HGr.out⟩
        · have hEq := eqlE x1 x2 x3 y1 y2 y3 false (decide_eq_false hxe)
          rw [if_neg hxe] at HT
          have HT2 : Hid (Gm.dd (l.take (k + 1)) = l.take (k + 1)) := (by rw [HT, HI.out, take_snoc' hx] : _ = _)
          clear hxe HT hx hy
          go_wp2
          go_quiet (fail)
          go_wp2
          go_roundw
          case rel => exact ⟨k + 1, _, by omega, by omega, by go_num, rfl, HT2.out⟩
          case measure => simp [intOf] <;> omega
      · obtain rfl : k = l.length := by omega
        have hI := HI.out
        rw [List.take_length] at hI
        have HE : Hid (Gm.dd l = l) := hI
        clear hI HI
        go_wp2
        go_ret
        refine ⟨_, rfl, ?_, gb_drewN _ _ _⟩
        rw [HE.out]
        exact HB.out
end Go.Proofs.YtphjbbbnbmafnabGreatDoor.G
