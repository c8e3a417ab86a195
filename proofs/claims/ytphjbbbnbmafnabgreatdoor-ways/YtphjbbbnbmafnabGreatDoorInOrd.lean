/-
  slices.Compact over a row of edges of one's own: what is the same as the one ahead of it falls; nothing else that was there is written.
  slices.Compact over a row of edges of one's own, walked: what is the same as the one ahead of it falls; nothing else that was there is written.
  The program's inOrder (slices.Compact of slices.SortedFunc of slices.Values): a new list of the edges in order, each once; nothing that was there is written.
-/
import Derived.Test.YtphjbbbnbmafnabGreatDoorEqE
import Derived.Test.YtphjbbbnbmafnabGreatDoorAppSeq
import Derived.Laws.CopyRow
import Derived.BigQuiet
namespace Go.Proofs.YtphjbbbnbmafnabGreatDoor.G
open Go.RowKit

/-- a block of edges -/
def RowE (W : World) (g cap : Nat) (L : List E3) : Prop := ∃ cur, W.heap[g]? = some (.cells cur 41 (0, 0)) ∧ cur.size = cap * 3 ∧ cur.toList.take (L.length * 3) = flat L
theorem flat_three {l : List E3} {j : Nat} {e : E3} (h : l[j]? = some e) : (flat l)[j * 3]? = some (.int .i64 e.1) ∧ (flat l)[j * 3 + 1]? = some (.int .i64 e.2.1) ∧ (flat l)[j * 3 + 2]? = some (.int .i64 e.2.2) := by
  have hj : j < l.length := by
    rcases Nat.lt_or_ge j l.length with e' | e'
    · exact e'
    · rw [List.getElem?_eq_none e'] at h; cases h
  have he : l[j]! = e := by
    rw [getElem!_pos l j hj]
    rw [List.getElem?_eq_getElem hj] at h
    exact Option.some.inj h
  refine ⟨?_, ?_, ?_⟩
  · rw [flat_at l (j * 3) (by omega), show j * 3 / 3 = j by omega, show j * 3 % 3 = 0 by omega, he]; rfl
  · rw [flat_at l (j * 3 + 1) (by omega), show (j * 3 + 1) / 3 = j by omega, show (j * 3 + 1) % 3 = 1 by omega, he]; rfl
  · rw [flat_at l (j * 3 + 2) (by omega), show (j * 3 + 2) / 3 = j by omega, show (j * 3 + 2) % 3 = 2 by omega, he]; rfl
theorem take_snoc' {l : List E3} {k : Nat} {x : E3} (h : l[k]? = some x) : l.take (k + 1) = l.take k ++ [x] := by rw [List.take_add_one, h]; rfl
theorem len_of {l : List E3} {j : Nat} {e : E3} (h : l[j]? = some e) : j < l.length := by
  rcases Nat.lt_or_ge j l.length with e' | e'
  · exact e'
  · rw [List.getElem?_eq_none e'] at h; cases h
theorem RowE.cells {W : World} {g cap : Nat} {L : List E3} (h : RowE W g cap L) {j : Nat} {e : E3} (hj : L[j]? = some e) : W.cell? ⟨g, j * 3, none⟩ = some (.int .i64 e.1) ∧ W.cell? ⟨g, j * 3 + 1, none⟩ = some (.int .i64 e.2.1) ∧ W.cell? ⟨g, j * 3 + 2, none⟩ = some (.int .i64 e.2.2) := by
  obtain ⟨cur, hg, _, ht⟩ := h
  have hl := len_of hj
  obtain ⟨h0, h1, h2⟩ := flat_three hj
  rw [← ht] at h0 h1 h2
  rw [List.getElem?_take_of_lt (by omega), Array.getElem?_toList] at h0 h1 h2
  exact ⟨by rw [cell_of_row W g _ cur _ _ hg]; exact h0, by rw [cell_of_row W g _ cur _ _ hg]; exact h1, by rw [cell_of_row W g _ cur _ _ hg]; exact h2⟩
theorem RowE.frozen {W : World} {g cap : Nat} {L : List E3} (h : RowE W g cap L) (o : Nat) : W.frozen? ⟨g, o, none⟩ = false := by
  obtain ⟨cur, hg, _, _⟩ := h
  exact frozen_of_row W g o cur _ hg
theorem RowE.drewN {W : World} {g cap : Nat} {L : List E3} (h : RowE W g cap L) (q : Nat) : RowE (W.drewN q) g cap L := h
theorem flat_append (l m : List E3) : flat (l ++ m) = flat l ++ flat m := by unfold flat; rw [List.flatMap_append]
theorem flat_set : ∀ (l : List E3) (k : Nat) (x : E3), k < l.length → flat (l.set k x) = (((flat l).set (k * 3) (.int .i64 x.1)).set (k * 3 + 1) (.int .i64 x.2.1)).set (k * 3 + 2) (.int .i64 x.2.2)
  | [], _, _, h => by simp at h
  | e :: l, 0, x, _ => by rw [List.set_cons_zero, flat_cons, flat_cons]; rfl
  | e :: l, k + 1, x, h => by
    rw [List.set_cons_succ, flat_cons, flat_cons, flat_set l k x (by simpa using h)]
    rw [show (k + 1) * 3 = (encE e).length + k * 3 by simp [encE]; omega, show (encE e).length + k * 3 + 1 = (encE e).length + (k * 3 + 1) by omega, show (encE e).length + k * 3 + 2 = (encE e).length + (k * 3 + 2) by omega]
    rw [List.set_append_right _ _ (by omega), List.set_append_right _ _ (by omega), List.set_append_right _ _ (by omega)]
    simp
theorem RowE.put {W : World} {g cap : Nat} {L : List E3} (h : RowE W g cap L) {k : Nat} (x : E3) (hk : k < L.length) : RowE (((W.setCell ⟨g, k * 3, none⟩ (.int .i64 x.1)).setCell ⟨g, k * 3 + 1, none⟩ (.int .i64 x.2.1)).setCell ⟨g, k * 3 + 2, none⟩ (.int .i64 x.2.2)) g cap (L.set k x) := by
  obtain ⟨cur, hg, hs, ht⟩ := h
  have h1 := heap_setCell_same W g (k * 3) cur _ (.int .i64 x.1) hg
  have h2 := heap_setCell_same _ g (k * 3 + 1) _ _ (.int .i64 x.2.1) h1
  have h3 := heap_setCell_same _ g (k * 3 + 2) _ _ (.int .i64 x.2.2) h2
  refine ⟨_, h3, by simp [hs], ?_⟩
  rw [flat_set L k x hk, ← ht, List.length_set]
  simp only [Array.toList_setIfInBounds]
  rw [List.take_set, List.take_set, List.take_set]
theorem gb_trans {A B C : World} {r : Option Nat} (h : A.grownBy B r) (k : B.grownBy C r) : A.grownBy C r :=
  ⟨k.os.trans h.os, k.tape.trans h.tape, k.output.trans h.output, Nat.le_trans h.size k.size, fun i hi hr => (k.block i (Nat.lt_of_lt_of_le hi h.size) hr).trans (h.block i hi hr)⟩
theorem gb_set (W : World) (g o : Nat) (v : Value) : W.grownBy (W.setCell ⟨g, o, none⟩ v) (some g) :=
  ⟨rfl, rfl, rfl, by simp [World.setCell], fun k _ hk => heap_setCell_other _ _ _ _ (fun e => hk (by rw [e]))⟩
theorem gb_drewN (W : World) (q : Nat) (r : Option Nat) : W.grownBy (W.drewN q) r := ⟨rfl, rfl, rfl, Nat.le_refl _, fun _ _ _ => rfl⟩
theorem gb_row (W : World) (g : Nat) (cs : Array Value) : W.grownBy (W.setRow g cs) (some g) :=
  ⟨rfl, rfl, rfl, by simp, fun k _ hk => setRow_other _ _ _ _ (fun e => hk (by rw [e]))⟩
theorem clear_rows (W : World) (g o n c : Nat) (ty t : TypeId) (cur : Array Value) (hg : W.heap[g]? = some (.cells cur t (0, 0))) (hn : 0 < n) (hfit : o + n * 3 ≤ cur.size) :
    ∃ vs : List Value, vs.length = n * 3 ∧ (Builtin.clear_ #[27] ty #[.slice (some ⟨g, o, none⟩) n c]).run Tryz.prog W = .ok (.tuple #[]) (W.setRow g (cur.toList.take o ++ vs ++ cur.toList.drop (o + vs.length)).toArray) := by
  refine ⟨(Builtin.zeroCells #[.int .i64 0, .int .i64 0, .int .i64 0] n).toList, by simp [Builtin.zeroCells], ?_⟩
  have hl : (Builtin.zeroCells #[.int .i64 0, .int .i64 0, .int .i64 0] n).toList.length = n * 3 := by simp [Builtin.zeroCells]
  have hst := run_storeCells_at Tryz.prog g o t (Builtin.zeroCells #[.int .i64 0, .int .i64 0, .int .i64 0] n).toList 0 cur W hg (by rw [hl]; omega) (fun v hv => by
    simp only [Builtin.zeroCells, Array.toList_map, List.mem_map] at hv
    obtain ⟨i, _, rfl⟩ := hv
    have : i % 3 < 3 := Nat.mod_lt _ (by decide)
    rcases (show i % 3 = 0 ∨ i % 3 = 1 ∨ i % 3 = 2 by omega) with e | e | e <;> simp [e] <;> rfl)
  simp only [Nat.add_zero] at hst
  obtain ⟨m, rfl⟩ : ∃ m, n = m + 1 := ⟨n - 1, by omega⟩
  have hz : (zeroValue 41).run Tryz.prog W = .ok (.agg #[.int .i64 0, .int .i64 0, .int .i64 0]) W := Tryz.zeroValue41 W
  simp [Builtin.clear_, run_underlying Tryz.underlying27, hz, Value.cells, hst]
end Go.Proofs.YtphjbbbnbmafnabGreatDoor.G

namespace Go.Proofs.YtphjbbbnbmafnabGreatDoor.G
open Go.RowKit

theorem dd_short (l : List E3) (h : l.length < 2) : Gm.dd l = l := by
  match l, h with
  | [], _ => rfl
  | [a], _ => rfl
theorem dd_step {l : List E3} {m : Nat} {x y : E3} (hx : l[m]? = some x) (hy : l[m - 1]? = some y) (hm : 0 < m) : Gm.dd (l.take (m + 1)) = Gm.dd (l.take m) ++ (if x = y then [] else [x]) := by
  have hl := len_of hx
  have hne : l.take m ≠ [] := by
    intro e
    have := congrArg List.length e
    rw [List.length_take, List.length_nil] at this
    omega
  rw [take_snoc' hx, Gm.dd_snoc _ hne]
  have : (l.take m).getLast hne = y := by
    rw [List.getLast_eq_getElem]
    have h2 : l[m - 1]? = some y := hy
    rw [List.getElem?_eq_getElem (by omega)] at h2
    simp only [List.getElem_take, List.length_take]
    have e : min m l.length - 1 = m - 1 := by omega
    simp only [e]
    exact Option.some.inj h2
  rw [this]
set_option maxHeartbeats 8000000 in
set_option maxRecDepth 100000 in
theorem compact_own (l : List E3) (base : Nat) (v : Value) (W : World) (hrow : W.ownsRow base 41 3 v l.length (flat l)) (hl : l.length ≤ 1000000) :
    Calls Tryz.prog 37 #[v] W fun e w' => ∃ v', e = .returned v' ∧ w'.ownsRow base 41 3 v' (Gm.dd l).length (flat (Gm.dd l)) ∧ W.grownBy w' v.ownBlock := by
  by_cases h2 : l.length < 2
  · have HD : Hid _ := dd_short l h2
    have HR : Hid _ := hrow
    rw [HD.out]
    have h2I : (l.length : Int) < 2 := by omega
    obtain ⟨a0, cap, rfl⟩ : ∃ a0 cap, v = .slice a0 l.length cap := by
      rcases hrow.2 with ⟨rfl, h0⟩ | ⟨g, cap, cur, rfl, _⟩
      · exact ⟨none, 0, by rw [h0]⟩
      · exact ⟨_, _, rfl⟩
    clear hrow
    go_enter Tryz.func37, Tryz.ntmps37
    go_wp2
    go_ret
    exact ⟨_, rfl, HR.out, ⟨rfl, rfl, rfl, Nat.le_refl _, fun _ _ _ => rfl⟩⟩
  · have h2I : ¬ (l.length : Int) < 2 := by omega
    obtain ⟨g, cap, cur, rfl, hbase, hgb, r1, r2, r3, r4⟩ : ∃ g cap cur, v = .slice (some ⟨g, 0, none⟩) l.length cap ∧ base ≤ g ∧ W.heap[g]? = some (.cells cur 41 (0, 0)) ∧ l.length ≤ cap ∧ cap ≤ maxLen ∧ cur.size = cap * 3 ∧ cur.toList.take (l.length * 3) = flat l := by
      rcases hrow.2 with ⟨rfl, h0⟩ | h
      · omega
      · exact h
    have HR0 : Hid (RowE W g cap l) := ⟨cur, hgb, r3, r4⟩
    have HB : Hid _ := hrow
    have gE := guardE
    clear hrow hgb r3 r4
    go_enter Tryz.func37, Tryz.ntmps37
    go_wp2
    go_loopw [3] (fun sk wr => ∃ k q : Nat, 1 ≤ k ∧ k ≤ l.length ∧ sk = .int .i64 (k : Int) ∧ wr = W.drewN q ∧ Hid (Gm.dd (l.take k) = l.take k)) (fun sk _ => l.length - (intOf sk).toNat)
    case atStart => exact ⟨1, 0, Nat.le_refl _, by omega, rfl, rfl, (dd_short _ (by simp; omega) : Gm.dd (l.take 1) = l.take 1)⟩
    case round =>
      obtain ⟨k, q, hk1, hk2, rfl, rfl, HI⟩ := hrel
      by_cases hlt : k < l.length
      · obtain ⟨x, hx⟩ : ∃ x, l[k]? = some x := ⟨_, List.getElem?_eq_getElem hlt⟩
        obtain ⟨y, hy⟩ : ∃ y, l[k - 1]? = some y := ⟨_, List.getElem?_eq_getElem (by omega)⟩
        obtain ⟨c0, c1, c2⟩ := HR0.out.cells hx
        obtain ⟨d0, d1, d2⟩ := HR0.out.cells hy
        have HT := dd_step hx hy (by omega)
        have hkI : (k : Int) < (l.length : Int) := by omega
        have hk1I : (k : Int) - 1 = ((k - 1 : Nat) : Int) := by omega
        have hk1N : ((k - 1 : Nat) : Int) < (l.length : Int) := by omega
        obtain ⟨x1, x2, x3⟩ := x
        obtain ⟨y1, y2, y3⟩ := y
        simp only at c0 c1 c2 d0 d1 d2
        by_cases hxe : (x1, x2, x3) = (y1, y2, y3)
        · have hEq := eqlE x1 x2 x3 y1 y2 y3 true (decide_eq_true hxe)
          rw [if_pos hxe, List.append_nil] at HT
          have HT2 : Hid _ := HT
          clear hxe HT hx hy
          go_wp2
          go_quiet (fail)
          go_wp2
          go_loopw [3, 5] (fun sm sj wr => ∃ m j : Nat, 1 ≤ j ∧ k + j ≤ l.length ∧ sj = .int .i64 (j : Int) ∧ sm = .int .i64 (m : Int) ∧ m < k + j ∧ Hid (m = (Gm.dd (l.take (k + j))).length ∧ RowE wr g cap (Gm.dd (l.take (k + j)) ++ l.drop m) ∧ W.grownBy wr (some g))) (fun _ sj _ => l.length - (intOf sj).toNat)
          case atStart =>
            refine ⟨k, 1, Nat.le_refl _, by omega, rfl, rfl, by omega, ?_⟩
            have e : Gm.dd (l.take (k + 1)) = l.take k := by rw [HT2.out, HI.out]
            have e2 : l.take k ++ l.drop k = l := List.take_append_drop k l
            exact (show _ ∧ _ ∧ _ from ⟨by rw [e, List.length_take]; omega, by rw [e, e2]; exact HR0.out, gb_drewN _ _ _⟩)
          case round =>
            obtain ⟨m, j, hj1, hj2, rfl, rfl, hmj, HM⟩ := hrel
            have hmk : ((l.length - k : Nat) : Int) = (l.length : Int) - (k : Int) := by omega
            by_cases hlt2 : k + j < l.length
            · obtain ⟨x, hx⟩ : ∃ x, l[k + j]? = some x := ⟨_, List.getElem?_eq_getElem hlt2⟩
              obtain ⟨y, hy⟩ : ∃ y, l[k + j - 1]? = some y := ⟨_, List.getElem?_eq_getElem (by omega)⟩
              have hLx : (Gm.dd (l.take (k + j)) ++ l.drop m)[k + j]? = some x := by
                rw [List.getElem?_append_right (by rw [← HM.out.1]; omega), ← HM.out.1, List.getElem?_drop, show m + (k + j - m) = k + j by omega]; exact hx
              have hLy : (Gm.dd (l.take (k + j)) ++ l.drop m)[k + j - 1]? = some y := by
                rw [List.getElem?_append_right (by rw [← HM.out.1]; omega), ← HM.out.1, List.getElem?_drop, show m + (k + j - 1 - m) = k + j - 1 by omega]; exact hy
              obtain ⟨c0, c1, c2⟩ := HM.out.2.1.cells hLx
              obtain ⟨d0, d1, d2⟩ := HM.out.2.1.cells hLy
              rw [show (k + j) * 3 = k * 3 + j * 3 by omega] at c0 c1 c2
              rw [show (k + j - 1) * 3 = k * 3 + (j - 1) * 3 by omega] at d0 d1 d2
              have HT := dd_step hx hy (by omega)
              have hjI : (j : Int) < ((l.length - k : Nat) : Int) := by omega
              have hj1I : (j : Int) - 1 = ((j - 1 : Nat) : Int) := by omega
              have hj1N : ((j - 1 : Nat) : Int) < ((l.length - k : Nat) : Int) := by omega
              have hmI : (m : Int) < (l.length : Int) := by omega
              obtain ⟨x1, x2, x3⟩ := x
              obtain ⟨y1, y2, y3⟩ := y
              simp only at c0 c1 c2 d0 d1 d2
              by_cases hxe : (x1, x2, x3) = (y1, y2, y3)
              · have hEq2 := eqlE x1 x2 x3 y1 y2 y3 true (decide_eq_true hxe)
                rw [if_pos hxe, List.append_nil] at HT
                have HT3 : Hid (Gm.dd (l.take (k + (j + 1))) = Gm.dd (l.take (k + j))) := HT
                clear hxe HT hx hy hLx hLy hmk hEq
                go_wp2
                go_quiet (fail)
                go_wp2
                go_roundw
                case rel =>
                  refine ⟨m, j + 1, by omega, by omega, by go_num, rfl, by omega, ?_⟩
                  rw [HT3.out]
                  exact (show _ ∧ _ ∧ _ from ⟨HM.out.1, HM.out.2.1.drewN _, gb_trans HM.out.2.2 (gb_drewN _ _ _)⟩)
                case measure => simp [intOf] <;> omega
              · have hEq2 := eqlE x1 x2 x3 y1 y2 y3 false (decide_eq_false hxe)
                rw [if_neg hxe] at HT
                have HT3 : Hid (Gm.dd (l.take (k + (j + 1))) = Gm.dd (l.take (k + j)) ++ [(x1, x2, x3)]) := HT
                obtain ⟨z, hz⟩ : ∃ z, l[m]? = some z := ⟨_, List.getElem?_eq_getElem (by omega)⟩
                have hLz : (Gm.dd (l.take (k + j)) ++ l.drop m)[m]? = some z := by
                  rw [List.getElem?_append_right (by rw [← HM.out.1]; exact Nat.le_refl _), ← HM.out.1, List.getElem?_drop, Nat.sub_self]; exact hz
                obtain ⟨e0, e1, e2⟩ := HM.out.2.1.cells hLz
                have f0 := HM.out.2.1.frozen (m * 3)
                have f1 := HM.out.2.1.frozen (m * 3 + 1)
                have f2 := HM.out.2.1.frozen (m * 3 + 2)
                clear hxe HT hx hy hLx hLy hmk hEq hz hLz
                go_wp2
                go_quiet (fail)
                go_wp2
                have HP : Hid _ := (HM.out.2.1.drewN nq).put (k := m) (x1, x2, x3) (by rw [List.length_append, ← HM.out.1, List.length_drop]; omega)
                have HS : Hid ((Gm.dd (l.take (k + j)) ++ l.drop m).set m (x1, x2, x3) = Gm.dd (l.take (k + (j + 1))) ++ l.drop (m + 1)) := (by
                  rw [HT3.out, List.set_append_right _ _ (by rw [← HM.out.1]; exact Nat.le_refl _), ← HM.out.1, Nat.sub_self, List.append_assoc]
                  congr 1
                  rw [List.drop_eq_getElem_cons (by omega : m < l.length), List.set_cons_zero]; rfl : _ = _)
                go_roundw
                case rel =>
                  refine ⟨m + 1, j + 1, by omega, by omega, by go_num, by go_num, by omega, ?_⟩
                  have h1 := HP.out
                  rw [HS.out] at h1
                  exact (show _ ∧ _ ∧ _ from ⟨by rw [HT3.out, List.length_append, ← HM.out.1]; rfl, h1, gb_trans (gb_trans (gb_trans (gb_trans HM.out.2.2 (gb_drewN _ _ _)) (gb_set _ _ _ _)) (gb_set _ _ _ _)) (gb_set _ _ _ _)⟩)
                case measure => simp [intOf] <;> omega
            · have hkj : k + j = l.length := by omega
              have hM := HM.out
              rw [hkj, List.take_length] at hM
              obtain ⟨hm1, ⟨cur2, hg2, hs2, ht2⟩, hgr⟩ := hM
              have hmln : m < l.length := by omega
              have hLl : (Gm.dd l ++ l.drop m).length = l.length := by rw [List.length_append, List.length_drop, ← hm1]; omega
              rw [hLl] at ht2
              obtain ⟨vs, hvl, hclr⟩ := clear_rows wr g (m * 3) (l.length - m) (cap - m) 0 _ cur2 hg2 (by omega) (by rw [hs2]; omega)
              have hjI : ¬ (j : Int) < ((l.length - k : Nat) : Int) := by omega
              have hmI : (m : Int) ≤ (l.length : Int) := by omega
              have HF : Hid ((wr.setRow g (cur2.toList.take (m * 3) ++ vs ++ cur2.toList.drop (m * 3 + vs.length)).toArray).ownsRow base 41 3 (.slice (some ⟨g, 0, none⟩) m cap) (Gm.dd l).length (flat (Gm.dd l))) := (by
                refine ⟨flat_len _, .inr ⟨g, cap, _, by rw [hm1], hbase, setRow_heap _ _ _ _ _ _ hg2, by rw [← hm1]; omega, r2, ?_, ?_⟩⟩
                · simp [hs2, hvl]; omega
                · rw [← hm1]
                  have e1 : (cur2.toList.take (m * 3)).length = m * 3 := by simp [hs2]; omega
                  show ((cur2.toList.take (m * 3) ++ vs ++ cur2.toList.drop (m * 3 + vs.length)).toArray.toList).take (m * 3) = _
                  rw [List.append_assoc, show (cur2.toList.take (m * 3) ++ (vs ++ cur2.toList.drop (m * 3 + vs.length))).toArray.toList = cur2.toList.take (m * 3) ++ (vs ++ cur2.toList.drop (m * 3 + vs.length)) from rfl, List.take_append_of_le_length (by omega), List.take_of_length_le (by omega)]
                  have h3 := congrArg (List.take (m * 3)) ht2
                  rw [List.take_take, Nat.min_eq_left (by omega), flat_append, List.take_append_of_le_length (by rw [flat_len, ← hm1]; exact Nat.le_refl _)] at h3
                  have h4 : (flat (Gm.dd l)).take (m * 3) = flat (Gm.dd l) := List.take_of_length_le (by rw [flat_len, ← hm1]; exact Nat.le_refl _)
                  rw [h4] at h3
                  exact h3 : World.ownsRow _ _ _ _ _ _ _)
              have HGr : Hid (W.grownBy (wr.setRow g (cur2.toList.take (m * 3) ++ vs ++ cur2.toList.drop (m * 3 + vs.length)).toArray) (some g)) := gb_trans hgr (gb_row _ _ _)
              generalize (cur2.toList.take (m * 3) ++ vs ++ cur2.toList.drop (m * 3 + vs.length)).toArray = fin at hclr HF HGr
              clear hkj hm1 hg2 hs2 ht2 hgr hLl hvl hEq
              go_wp2
              go_ret
              exact ⟨_, rfl, HF.out, HGr.out⟩
        · have hEq := eqlE x1 x2 x3 y1 y2 y3 false (decide_eq_false hxe)
          rw [if_neg hxe] at HT
          have HT2 : Hid (Gm.dd (l.take (k + 1)) = l.take (k + 1)) := (by rw [HT, HI.out, take_snoc' hx] : _ = _)
          clear hxe HT hx hy
          go_wp2
          go_quiet (fail)
          go_wp2
          go_roundw
          case rel => exact ⟨k + 1, _, by omega, by omega, by go_num, rfl, HT2.out⟩
          case measure => simp [intOf] <;> omega
      · obtain rfl : k = l.length := by omega
        have hI := HI.out
        rw [List.take_length] at hI
        have HE : Hid (Gm.dd l = l) := hI
        clear hI HI
        go_wp2
        go_ret
        refine ⟨_, rfl, ?_, gb_drewN _ _ _⟩
        rw [HE.out]
        exact HB.out
end Go.Proofs.YtphjbbbnbmafnabGreatDoor.G

namespace Go.Proofs.YtphjbbbnbmafnabGreatDoor.G
open Go.RowKit

theorem below_gb {B : Nat} {w a b : World} {v : Value} (h : Below B w a) (hg : a.grownBy b v.ownBlock) (hB : B ≤ a.heap.size) (hr : ∀ k, v.ownBlock = some k → B ≤ k) : Below B w b := h.grown hg hB hr
set_option maxHeartbeats 1000000 in
theorem collect_any (Bs : Nat) (v0 : Value) (zs : List E3) (hz : zs.length ≤ 1000000) (w : World) (hBs : Bs < w.heap.size) (hc : w.cell? ⟨Bs, 0, none⟩ = some v0) (hI : EdgesAt w v0 zs) (hlow : ∀ a0 len cap, v0 = .slice (some a0) len cap → zs ≠ [] → a0.block < w.heap.size) :
    Calls Tryz.prog 69 #[.func (.func 71) #[] #[.pointer (some ⟨Bs, 0, none⟩)]] w fun e w' => ∃ v, e = .returned v ∧ w'.ownsRow w.heap.size 41 3 v zs.length (flat zs) ∧ Below w.heap.size w w' := by
  have HA : Hid (Calls Tryz.prog 102 _ w _) := callsIn_wide.1 (appendSeq_in Fence.wide 9 trivial trivial rfl (by decide) Bs v0 zs hz w hBs hc hI hlow)
  go_enter Tryz.func69, Tryz.ntmps69
  go_wp2_with fail
  refine (Calls.mono HA.out ?_)
  rintro e w1 ⟨v, rfl, hrow, hB⟩
  go_wp2
  go_ret
  exact ⟨v, rfl, hrow, hB⟩
set_option maxHeartbeats 1000000 in
theorem sorted_any (Bs : Nat) (v0 : Value) (zs : List E3) (hz : zs.length ≤ 1000000) (w : World) (hBs : Bs < w.heap.size) (hc : w.cell? ⟨Bs, 0, none⟩ = some v0) (hI : EdgesAt w v0 zs) (hlow : ∀ a0 len cap, v0 = .slice (some a0) len cap → zs ≠ [] → a0.block < w.heap.size) :
    Calls Tryz.prog 38 #[.func (.func 71) #[] #[.pointer (some ⟨Bs, 0, none⟩)], .func (.func 40) #[] #[]] w fun e w' => ∃ v, e = .returned v ∧ w'.ownsRow w.heap.size 41 3 v zs.length (flat (zs.mergeSort fun x y => !Gm.ltE y x)) ∧ Below w.heap.size w w' := by
  have HA : Hid (Calls Tryz.prog 69 _ w _) := collect_any Bs v0 zs hz w hBs hc hI hlow
  go_enter Tryz.func38, Tryz.ntmps38
  go_wp2_with fail
  refine (Calls.mono HA.out ?_)
  rintro e w1 ⟨v, rfl, hrow, hB⟩
  have HS : Hid (Calls Tryz.prog 70 _ w1 _) := sortf_own zs w.heap.size v w1 hrow hz
  have HB : Hid (∀ k, v.ownBlock = some k → w.heap.size ≤ k) := (fun k hk => (hrow.lt k hk).1 : ∀ k, v.ownBlock = some k → w.heap.size ≤ k)
  have HBe : Hid _ := hB
  clear hrow hB
  go_wp2_with fail
  refine (Calls.mono HS.out ?_)
  rintro e w2 ⟨rfl, hrow2, hg2⟩
  go_wp2
  go_ret
  exact ⟨v, rfl, hrow2, HBe.out.grown hg2 HBe.out.size HB.out⟩
theorem ownE_edges {w wr : World} {v : Value} {l : List E3} (h : wr.ownsRow w.heap.size 41 3 v l.length (flat l)) : EdgesAt wr v l := by
  rcases h.2 with ⟨rfl, h0⟩ | ⟨g, cap, cur, rfl, _, hg, r1, r2, r3, r4⟩
  · obtain rfl : l = [] := List.eq_nil_of_length_eq_zero h0
    exact ⟨none, 0, rfl, fun j e hj => by cases hj⟩
  · refine ⟨some ⟨g, 0, none⟩, cap, rfl, fun j e hj => ⟨g, 0, rfl, ?_⟩⟩
    have hR : RowE wr g cap l := ⟨cur, hg, r3, r4⟩
    rw [Nat.zero_add]
    exact hR.cells hj
set_option maxHeartbeats 1000000 in
theorem inorder_any (v0 : Value) (zs : List E3) (hz : zs.length ≤ 1000000) (w : World) (hI : EdgesAt w v0 zs) :
    Calls Tryz.prog 19 #[v0] w fun e w' => ∃ v, e = .returned v ∧ w'.ownsRow w.heap.size 41 3 v (Gm.ordE zs).length (flat (Gm.ordE zs)) ∧ Below w.heap.size w w' := by
  obtain ⟨a0, cap, rfl, hed⟩ := id hI
  have HV : Hid (Calls Tryz.prog 39 _ w _) := callsIn_wide.1 (values_in Fence.wide 9 trivial rfl a0 zs.length cap w)
  have hB1 := below1 w (.cells #[.slice a0 zs.length cap] 27)
  have HS : Hid (Calls Tryz.prog 38 _ (w.alloc (.cells #[.slice a0 zs.length cap] 27)) _) := sorted_any w.heap.size (.slice a0 zs.length cap) zs hz (w.alloc (.cells #[.slice a0 zs.length cap] 27)) (by simp) (by simp) (hI.below hB1) (fun b0 len2 cap2 e hne => by
    cases e
    cases zs with
    | nil => exact absurd rfl hne
    | cons z zs =>
      obtain ⟨g, off, e2, c0, _⟩ := hed 0 z rfl
      cases e2
      have := World.block_lt_of_cell? _ _ c0
      simp at this ⊢
      omega)
  have HB1 : Hid _ := hB1
  clear hed hI hB1
  go_enter Tryz.func19, Tryz.ntmps19
  go_wp2_with fail
  refine (Calls.mono HV.out ?_)
  rintro e w1 ⟨rfl, hw⟩
  rw [hw]
  clear hw w1
  go_wp2_with fail
  refine (Calls.mono HS.out ?_)
  rintro e w2 ⟨v, rfl, hrow, hB2⟩
  have hm : (zs.mergeSort fun x y => !Gm.ltE y x).length = zs.length := List.length_mergeSort _
  rw [← hm] at hrow
  have HC : Hid (Calls Tryz.prog 37 _ w2 _) := compact_own _ _ v w2 hrow (by omega)
  have hb2 := HB1.out.trans (hB2.mono (by simp))
  have HB2 : Hid _ := hb2
  have HBk : Hid (∀ k, v.ownBlock = some k → w.heap.size ≤ k) := (fun k hk => by have := (hrow.lt k hk).1; simp at this; omega : ∀ k, v.ownBlock = some k → w.heap.size ≤ k)
  clear hrow hB2 hb2
  go_wp2_with fail
  refine (Calls.mono HC.out ?_)
  rintro e w3 ⟨v', rfl, hrow3, hg3⟩
  go_wp2
  go_ret
  refine ⟨v', rfl, ?_, HB2.out.grown hg3 HB2.out.size HBk.out⟩
  refine ⟨hrow3.1, ?_⟩
  rcases hrow3.2 with h0 | ⟨g, cap, cur, hv, hb, r⟩
  · exact .inl h0
  · exact .inr ⟨g, cap, cur, hv, by simp at hb; omega, r⟩
end Go.Proofs.YtphjbbbnbmafnabGreatDoor.G
