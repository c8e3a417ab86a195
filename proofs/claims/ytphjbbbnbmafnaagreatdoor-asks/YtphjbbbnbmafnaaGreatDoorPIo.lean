/-
  The edges to a span of nodes: placesTo, edgesOf by it, In: what they answer; new lists; nothing that was there is written.
  The program's edgesOf by placesTo; Only, Out and In: the edges, a new list, or ErrRange; nothing that was there is written.
-/
import Derived.Test.YtphjbbbnbmafnaaGreatDoorPSp16
import Derived.Test.YtphjbbbnbmafnaaGreatDoorSortI
import Derived.Deep.DeepCutAuto
namespace Go.Proofs.YtphjbbbnbmafnaaGreatDoor.G
open Go.RowKit

attribute [local go_sem ↓] Go.wp_at_zero Go.wp_at_succ
theorem set2_other {W : World} {N B o : Nat} {u v z : Value} (hne : B ≠ N) (h : W.cell? ⟨B, o, none⟩ = some z) : ((W.setCell ⟨N, 0, none⟩ u).setCell ⟨N, 1, none⟩ v).cell? ⟨B, o, none⟩ = some z := by
  rw [World.cell?_setCell_other _ ⟨N, 1, none⟩ ⟨B, o, none⟩ v (fun e => hne (congrArg Addr.block e).symm), World.cell?_setCell_other _ ⟨N, 0, none⟩ ⟨B, o, none⟩ u (fun e => hne (congrArg Addr.block e).symm)]
  exact h
/-- a span that was just made -/
theorem new_span (W : World) (N : Nat) (hN : W.heap.size = N) : (W.alloc (.cells #[.int .i64 0, .int .i64 0] 40)).cell? ⟨N, 0, none⟩ = some (.int .i64 0) ∧ (W.alloc (.cells #[.int .i64 0, .int .i64 0] 40)).cell? ⟨N, 1, none⟩ = some (.int .i64 0) ∧ (W.alloc (.cells #[.int .i64 0, .int .i64 0] 40)).frozen? ⟨N, 0, none⟩ = false ∧ (W.alloc (.cells #[.int .i64 0, .int .i64 0] 40)).frozen? ⟨N, 1, none⟩ = false ∧ N < (W.alloc (.cells #[.int .i64 0, .int .i64 0] 40)).heap.size := by
  subst hN
  have h := heap_alloc_new W (.cells #[.int .i64 0, .int .i64 0] 40)
  exact ⟨by rw [cell_of_row _ _ 0 _ _ _ h]; rfl, by rw [cell_of_row _ _ 1 _ _ _ h]; rfl, frozen_of_row _ _ 0 _ _ h, frozen_of_row _ _ 1 _ _ h, by simp⟩
/-- a span's cells as they lie, and may be written -/
def SpanAt (W : World) (N : Nat) : Prop := W.cell? ⟨N, 0, none⟩ = some (.int .i64 0) ∧ W.cell? ⟨N, 1, none⟩ = some (.int .i64 0) ∧ W.frozen? ⟨N, 0, none⟩ = false ∧ W.frozen? ⟨N, 1, none⟩ = false ∧ N < W.heap.size
theorem SpanAt.below {W W' : World} {N : Nat} (h : SpanAt W N) (hB : Below W.heap.size W W') : SpanAt W' N :=
  ⟨cell_kept hB _ _ h.1, cell_kept hB _ _ h.2.1, (hB.frozen (p := ⟨N, 0, none⟩) h.2.2.2.2).trans h.2.2.1, (hB.frozen (p := ⟨N, 1, none⟩) h.2.2.2.2).trans h.2.2.2.1, Nat.lt_of_lt_of_le h.2.2.2.2 hB.size⟩
theorem spanAt_new (W : World) (N : Nat) (hN : W.heap.size = N) : SpanAt (W.alloc (.cells #[.int .i64 0, .int .i64 0] 40)) N := new_span W N hN
theorem spanAt_drew {W : World} {N : Nat} (h : SpanAt W N) : SpanAt W.drew N := h
theorem set2_0 {W : World} {N : Nat} {u v : Value} (h : SpanAt W N) : ((W.setCell ⟨N, 0, none⟩ u).setCell ⟨N, 1, none⟩ v).cell? ⟨N, 0, none⟩ = some u := by
  rw [World.cell?_setCell_other _ ⟨N, 1, none⟩ ⟨N, 0, none⟩ v (fun e => by simp at e)]
  exact World.cell?_setCell_same _ _ _ h.1
theorem set2_1 {W : World} {N : Nat} {u v : Value} (h : SpanAt W N) : ((W.setCell ⟨N, 0, none⟩ u).setCell ⟨N, 1, none⟩ v).cell? ⟨N, 1, none⟩ = some v := by
  refine World.cell?_setCell_same _ _ _ (u := .int .i64 0) ?_
  rw [World.cell?_setCell_other _ ⟨N, 0, none⟩ ⟨N, 1, none⟩ u (fun e => by simp at e)]
  exact h.2.1
set_option maxHeartbeats 8000000 in
set_option maxRecDepth 100000 in
theorem placesto_any {w : World} {b n s : Nat} {L : List E3} (h : GraphAt w b n s L) (x y : Nat) (hxy : x ≤ y) (hy : y ≤ 10000) :
    Calls Tryz.prog 37 #[.pointer (some ⟨b, 0, none⟩), .agg #[.int .i64 (x : Int), .int .i64 (y : Int)]] w fun e w' => ∃ v, e = .returned v ∧ NumsAt .i64 w' v (at_ L (fun e => decide ((x : Int) ≤ e.2.2 ∧ e.2.2 < (y : Int)))) ∧ Below w.heap.size w w' := by
  have hB0 := below1 w (.cells #[.int .i64 (x : Int), .int .i64 (y : Int)] 40)
  obtain ⟨bl, gl, c4w, h8⟩ := h.lab
  obtain ⟨R, bt, gt, c5w, h16, hperm, hs2⟩ := h.tgt
  have c5 := cell_kept hB0 _ _ c5w
  obtain ⟨k0, k1⟩ := cell_box2 w (x : Int) (y : Int)
  have hbd := h.bd
  have hb5 := World.block_lt_of_cell? _ _ h.sz0
  simp only at hb5
  have hRl : (tos R).length = L.length := by unfold tos; rw [List.length_map]; exact hperm.length_eq
  have hLl : (labs L).length = L.length := by unfold labs; rw [List.length_map]
  have HPl2 : Hid (Gm.Strict L ∧ R.Perm L ∧ Gm.S2 R ∧ Lab0 L) := ⟨h.st, hperm, hs2, h.lab0⟩
  have HRl : Hid _ := hRl
  have HLl : Hid _ := hLl
  have H8 : Hid _ := h8
  have H16w : Hid _ := h16
  have H16 : Hid _ := h16.below hB0
  have HB0 : Hid _ := hB0
  have HW : Hid (∀ W, SeqAt 16 W bt gt (tos R) → Calls Tryz.prog 68 #[.pointer (some ⟨bt, 0, none⟩)] W _) := fun W h => S16.whole_any h
  have HSp : Hid (∀ W, SeqAt 16 W bt gt (tos R) → Calls Tryz.prog 66 #[S16.belowV bt, .agg #[.int .i64 0, .int .i64 ((tos R).length : Int)], .agg #[.int .i64 (x : Int), .int .i64 (y : Int)]] W _) := fun W h => S16.spansort_any h 0 (tos R).length (Nat.zero_le _) (Nat.le_refl _) x y (by omega) (by omega)
  obtain ⟨X, hX⟩ : ∃ X, X = bel (tos R) 0 (tos R).length x := ⟨_, rfl⟩
  obtain ⟨Y, hY⟩ : ∃ Y, Y = bel (tos R) 0 (tos R).length y := ⟨_, rfl⟩
  rw [← hX, ← hY] at HSp
  have hYl : Y ≤ L.length := by rw [hY, ← hRl]; exact bel_le _ _ _ _
  have hXY : X ≤ Y := by rw [hX, hY, bel_whole, bel_whole]; exact filter_lt_le _ _ _ hxy
  have HX : Hid _ := hX
  have HY : Hid _ := hY
  rw [hRl] at HW HSp
  clear h h8 h16 hperm hs2 hX hY hRl hLl hB0
  go_enter Tryz.func37, Tryz.ntmps37
  go_upto_region 2 with fail
  go_cut [6] (fun s6 wx => ∃ Bx, s6 = .pointer (some ⟨Bx, 0, none⟩) ∧ Hid (Below w.heap.size w wx ∧ wx.cell? ⟨Bx, 0, none⟩ = some (.int .i64 (X : Int)) ∧ wx.cell? ⟨Bx, 1, none⟩ = some (.int .i64 (Y : Int))))
  case first =>
   go_region_held3 (fun w' => w'.cell? ⟨w.heap.size, 0, none⟩ = some (.int .i64 (x : Int)) ∧ w'.cell? ⟨w.heap.size, 1, none⟩ = some (.int .i64 (y : Int)) ∧ w'.cell? ⟨b, 5, none⟩ = some (.pointer (some ⟨bt, 0, none⟩)))
       (first | (refine ⟨?_, ?_, ?_⟩ <;> (refine set2_other ?_ ?_ <;> first | assumption | omega)) | (go_keep; done) | (refine ⟨?_, ?_, ?_⟩ <;> assumption))
       (first
         | (go_at_call 68; refine (HW.out _ ?_).mono ?_; (first | exact (H16.out.kept (fun _ _ h => h)) | exact ((H16.out.below (below1 _ _)).kept (fun _ _ h => h))); rintro r w1 ⟨rfl, hB1d⟩; have hB1 : Below (w.alloc (.cells #[.int .i64 (x : Int), .int .i64 (y : Int)] 40)).heap.size (w.alloc (.cells #[.int .i64 (x : Int), .int .i64 (y : Int)] 40)) w1 := (by first | exact ((Below.refl _ _).drew).trans hB1d | exact (((Below.refl _ _).alloc (Nat.le_refl _) _).drew).trans (hB1d.mono (Nat.le_of_lt (spanAt_new (w.alloc (.cells #[.int .i64 (x : Int), .int .i64 (y : Int)] 40)) _ rfl).2.2.2.2))); have q1 := cell_kept hB1 _ _ k0; have q2 := cell_kept hB1 _ _ k1; have q3 := cell_kept hB1 _ _ c5; have q7 := World.block_lt_of_cell? _ _ q1; have q8 := World.block_lt_of_cell? _ _ q3; (first | have p9 : SpanAt w1 (w.heap.size + 1) := SpanAt.below (spanAt_drew (spanAt_new (w.alloc (.cells #[.int .i64 (x : Int), .int .i64 (y : Int)] 40)) _ (World.size_alloc _ _))) hB1d | have p9 : SpanAt w1 (w.heap.size + 1) := SpanAt.below (spanAt_new (w.alloc (.cells #[.int .i64 (x : Int), .int .i64 (y : Int)] 40)).drew _ (World.size_alloc _ _)) hB1d | skip); (try obtain ⟨p0, p1, p2, p3, p4⟩ := id p9))
         | (go_at_call 66; refine (HSp.out _ ?_).mono ?_; (first | exact (H16.out.below hB1) | exact ((H16.out.below hB1).below (below1 _ _)) | exact ((H16.out.below hB1).kept (fun _ _ h => h))); rintro r w2 ⟨rfl, hB2d⟩; have hB2 : Below w1.heap.size w1 w2 := (by first | exact hB2d | exact ((Below.refl _ _).alloc (Nat.le_refl _) _).trans (hB2d.mono (Nat.le_of_lt (spanAt_new w1 _ rfl).2.2.2.2)) | exact ((Below.refl _ _).drew).trans hB2d); have q4 := cell_kept hB2 _ _ q1; have q5 := cell_kept hB2 _ _ q2; have q6 := cell_kept hB2 _ _ q3; have q9 := hB2.size; (try have r9 := SpanAt.below p9 hB2); (try obtain ⟨r0, r1, r2, r3, r4⟩ := id r9); (try have o9 : SpanAt w2 w1.heap.size := SpanAt.below (spanAt_new w1 _ rfl) hB2d); (try obtain ⟨o0, o1, o2, o3, o4⟩ := id o9)))
   all_goals
     go_wp2_with fail
     go_meet
     case rel =>
       first
         | exact ⟨_, rfl, (chain HB0.out (chain hB1 hB2)).alloc (chain HB0.out (chain hB1 hB2)).size _, (box2 _ _ _ _).1, (box2 _ _ _ _).2⟩
         | exact ⟨_, rfl, ((chain HB0.out (chain hB1 hB2)).setCell (p := ⟨w1.heap.size, 0, none⟩) (chain HB0.out hB1).size _).setCell (p := ⟨w1.heap.size, 1, none⟩) (chain HB0.out hB1).size _, set2_0 o9, set2_1 o9⟩
         | exact ⟨_, rfl, ((chain HB0.out (chain hB1 hB2)).setCell (p := ⟨w.heap.size + 1, 0, none⟩) (Nat.le_succ _) _).setCell (p := ⟨w.heap.size + 1, 1, none⟩) (Nat.le_succ _) _, set2_0 r9, set2_1 r9⟩
  case rest =>
    obtain ⟨Bx, rfl, HC⟩ := hcut
    have z0 := HC.out.2.1
    obtain ⟨i0, hi, hz0, hz1, hz2⟩ := info_parts Tryz.infoI
    have HP8 : Hid (∀ W, SeqAt 8 W bl gl (labs L) → ∀ t, t < (labs L).length → Calls Tryz.prog 69 #[.pointer (some ⟨bl, 0, none⟩), .int .i64 (t : Int)] W _) := fun W h t ht => S8.placeof_any h t ht
    have HP16 : Hid (∀ W, SeqAt 16 W bt gt (tos R) → ∀ q, q < (tos R).length → Calls Tryz.prog 70 #[.pointer (some ⟨bt, 0, none⟩), .int .i64 (q : Int)] W _) := fun W h q hq => S16.placeof_any h q hq
    clear k0 k1 c5 HW HSp
    go_wp2
    clear z0
    go_loopw [5, 7] (fun sv sq wr => ∃ (k : Nat) (P : List Nat), k ≤ Y - X ∧ P.length = k ∧ sq = .int .i64 ((X + k : Nat) : Int) ∧ (∃ a1 c1, sv = .slice a1 k c1) ∧ Hid (OwnI wc wr sv P ∧ ∀ i p, P[i]? = some p → Pl2 L R (X + i) p)) (fun _ sq _ => Y - (intOf sq).toNat)
    case atStart => exact ⟨0, [], Nat.zero_le _, rfl, rfl, ⟨none, 0, rfl⟩, ⟨World.ownsRow_nil _ _ _ _, Below.refl _ _⟩, fun i p h => by simp at h⟩
    case round =>
      obtain ⟨k, P, hk, hPk, rfl, ⟨a1, c1, rfl⟩, HI⟩ := hrel
      have HPk : Hid _ := hPk
      have z1 := cell_kept HI.out.1.2 _ _ HC.out.2.2
      by_cases hlt : k < Y - X
      · have hBw := chain HC.out.1 HI.out.1.2
        have b4 := cell_kept hBw _ _ c4w
        have b5 := cell_kept hBw _ _ c5w
        have hrw := HI.out.1.1
        rw [hPk] at hrw
        have HRw : Hid _ := hrw
        have hszw := HI.out.1.2.size
        have HBw : Hid _ := hBw
        have l1 : ((X + k : Nat) : Int) < (Y : Int) := by omega
        have hbl := World.block_lt_of_cell? _ _ c4w
        simp only at hbl
        have hbw : b < wr.heap.size := by have := hBw.size; omega
        have hne : (Value.slice a1 k c1).ownBlock ≠ some b := fun e => by have := (hrw.lt b e).1; have := HC.out.1.size; omega
        have hkq : X + k < (tos R).length := by rw [HRl.out]; omega
        generalize hqq : X + k = q at l1 hkq
        have HQ : Hid _ := hqq
        clear hBw hPk hbl hqq
        go_wp2_with fail
        go_region_held3 (fun w' => w'.cell? ⟨b, 4, none⟩ = some (.pointer (some ⟨bl, 0, none⟩)) ∧ w'.cell? ⟨b, 5, none⟩ = some (.pointer (some ⟨bt, 0, none⟩)))
          (first
            | (refine ⟨?_, ?_⟩ <;> assumption)
            | (go_split_ands; refine ⟨(hgrow.cell_far _ ?_ (Ne.symm hne)).trans ?_, (hgrow.cell_far _ ?_ (Ne.symm hne)).trans ?_⟩ <;> first | assumption | (simp; omega))
            | (go_keep; done))
          (first
            | (go_at_call 70; refine (HP16.out _ ?_ q hkq).mono ?_; exact ((H16w.out.below HBw.out).kept (fun _ _ h => h)); rintro r w3 ⟨t, rfl, hPt, hB3d⟩; have hB3 := ((Below.refl wr.heap.size wr).drew).trans hB3d; have q1 := cell_kept hB3 _ _ b4; have q2 := cell_kept hB3 _ _ b5)
            | (go_at_call 69; refine (HP8.out _ ?_ t (by rw [HLl.out, ← HRl.out]; exact hPt.lt.2)).mono ?_; exact (((H8.out.below HBw.out).below hB3).kept (fun _ _ h => h)); rintro r w4 ⟨p, rfl, hPp, hB4d⟩; have hB4 : Below w3.heap.size w3 w4 := (by first | exact hB4d | exact ((Below.refl w3.heap.size w3).drew).trans hB4d); have q3 := cell_kept hB4 _ _ q1; have q4 := cell_kept hB4 _ _ q2; have q5 := hB4.size; have q6 := hB3.size)
            | ((refine step_append_lies _ (by rfl) _ _ _ (by rfl) wc.heap.size 3 i0 _ 1 8 Tryz.underlying64 hi hz0 hz1 hz2 rfl (by omega) (.slice a1 k c1) k (vals .i64 P) (by rfl) (((own_keep (own_keep HRw.out hB3) hB4).alloc _).drew) ⟨w4.heap.size, 0, none⟩ 1 1 [.int .i64 (p : Int)] (by rfl) (by rfl) (World.news_of_block (cs := #[.int .i64 (p : Int)]) (t := 3) (fr := (0, 0)) (heap_alloc_new w4 _)) (by simp [Value.oneCell']) (by omega) (by unfold maxLen; omega) (by omega) (by simp; omega) (w4.heap.size + 1) (by simp) ?_; intro gg gcap w5 hown1 hgrow hat hlt5)))
        have HI2 : Hid (OwnI wc w5 (.slice (some ⟨gg, 0, none⟩) (k + 1) gcap) (P ++ [p]) ∧ ∀ i p', (P ++ [p])[i]? = some p' → Pl2 L R (X + i) p') := (by
          refine ⟨⟨by rw [vals_snoc, List.length_append, HPk.out]; exact hown1, ?_⟩, fun i p' hp' => ?_⟩
          · have h4 := chain (chain HI.out.1.2 hB3) hB4
            exact (h4.alloc h4.size _).grown hgrow (by have := h4.size; simp; omega) (fun r hr => (hrw.lt r hr).1)
          · by_cases hi2 : i < P.length
            · rw [List.getElem?_append_left hi2] at hp'
              exact HI.out.2 i p' hp'
            · have hl := (List.getElem?_eq_some_iff.1 hp').1
              rw [List.length_append, List.length_singleton] at hl
              obtain rfl : i = P.length := by omega
              rw [List.getElem?_append_right (Nat.le_refl _), Nat.sub_self] at hp'
              simp at hp'
              subst hp'
              rw [HPk.out, HQ.out]
              exact ⟨t, hPt, hPp⟩ : _ ∧ _)
        have HQ2 : Hid (q + 1 = X + (k + 1)) := (by have := HQ.out; omega : _ = _)
        clear hown1 hgrow hat hlt5 hrw HI hPt hPp q1 q2 q3 q4
        go_wp2
        go_roundw
        case rel => exact ⟨k + 1, P ++ [p], by omega, by rw [List.length_append, HPk.out]; rfl, by rw [← HQ2.out]; go_num, ⟨_, gcap, rfl⟩, HI2.out⟩
        case measure => simp [intOf]; have := HQ.out; omega
      · have hnl : ¬ ((X + k : Nat) : Int) < (Y : Int) := by omega
        obtain rfl : k = Y - X := by omega
        have HSo : Hid (Calls Tryz.prog 71 _ wr _) := sorti_own P wc.heap.size _ wr HI.out.1.1 (by omega)
        have HBw : Hid _ := HI.out.1.2
        have HQs : Hid _ := HI.out.2
        have HLw : Hid _ := HI.out.1.1
        go_wp2_with fail
        refine (Calls.mono HSo.out ?_)
        rintro e w6 ⟨rfl, ⟨S, hSp, hSo, hrow6⟩, hg6⟩
        have HS : Hid (S = at_ L (fun e => decide ((x : Int) ≤ e.2.2 ∧ e.2.2 < (y : Int)))) := found_places HPl2.out.1 HPl2.out.2.1 HPl2.out.2.2.1 HPl2.out.2.2.2 x y P S (by rw [HPk.out, HX.out, HY.out]) (fun i p h => by rw [← HX.out]; exact HQs.out i p h) hSp hSo
        have HN : Hid (NumsAt .i64 w6 (.slice a1 (Y - X) c1) S) := nums_own hrow6
        have HB6 : Hid (Below w.heap.size w w6) := (chain HC.out.1 HBw.out).grown hg6 (chain HC.out.1 HBw.out).size (fun r hr => Nat.le_trans HC.out.1.size (World.ownsRow.lt HLw.out r hr).1)
        clear hSp hSo hrow6 hg6 HI
        go_wp2
        go_ret
        exact ⟨_, rfl, by rw [← HS.out]; exact HN.out, HB6.out⟩
end Go.Proofs.YtphjbbbnbmafnaaGreatDoor.G

namespace Go.Proofs.YtphjbbbnbmafnaaGreatDoor.G
open Go.RowKit

attribute [local go_sem ↓] Go.wp_at_zero Go.wp_at_succ
set_option maxHeartbeats 4000000 in
set_option maxRecDepth 100000 in
theorem edgesof_yes2 {w : World} {b n s : Nat} {L : List E3} (h : GraphAt w b n s L) (x y : Nat) (hxy : x ≤ y ∧ y ≤ n) (ps : List Nat) (hps : ∀ p ∈ ps, p < L.length) (hpl : ps.length ≤ 20000)
    (hK : ∀ W, GraphAt W b n s L → Calls Tryz.prog 37 #[.pointer (some ⟨b, 0, none⟩), .agg #[.int .i64 (x : Int), .int .i64 (y : Int)]] W fun e w' => ∃ v, e = .returned v ∧ NumsAt .i64 w' v ps ∧ Below W.heap.size W w') :
    Calls Tryz.prog 32 #[.pointer (some ⟨b, 0, none⟩), .agg #[.int .i64 (x : Int), .int .i64 (y : Int)], .func (.func 37) #[] #[]] w fun e w' => ∃ v, e = .returned (.tuple #[v, .int .i64 0]) ∧ OwnE w w' v (edAt L ps) := by
  have hB0 := below1 w (.cells #[.int .i64 (x : Int), .int .i64 (y : Int)] 40)
  have HB0 : Hid _ := hB0
  obtain ⟨k0, k1⟩ := cell_box2 w (x : Int) (y : Int)
  have k2 := (h.below hB0).sz0
  have HS : Hid (∀ W, Calls Tryz.prog 39 _ W _) := fun W => isSpan_any (x : Int) (y : Int) (n : Int) W
  rw [decide_eq_true (by omega : 0 ≤ (x : Int) ∧ (x : Int) ≤ (y : Int) ∧ (y : Int) ≤ (n : Int))] at HS
  have HG : Hid _ := h
  have HK : Hid _ := hK
  have HP : Hid _ := hps
  obtain ⟨i0, hi, hz0, hz1, hz2⟩ := info_parts Tryz.infoE
  clear h hB0 hK hps
  go_enter Tryz.func32, Tryz.ntmps32
  go_wp2_with fail
  go_region_held3 (fun w' => w'.cell? ⟨w.heap.size, 0, none⟩ = some (.int .i64 (x : Int)) ∧ w'.cell? ⟨w.heap.size, 1, none⟩ = some (.int .i64 (y : Int)) ∧ w'.cell? ⟨b, 0, none⟩ = some (.int .i64 (n : Int))) (go_keep)
    (first
      | (go_at_call 39; refine (HS.out _).mono ?_; rintro r w1 ⟨rfl, hB1d⟩; have hB1 := ((Below.refl _ _).drew).trans hB1d; have q1 := cell_kept hB1 _ _ k0; have q2 := cell_kept hB1 _ _ k1; have q3 := cell_kept hB1 _ _ k2))
  have HB1 : Hid _ := chain HB0.out hB1
  clear hB1 hB1d k0 k1 k2
  go_wp2_with fail
  refine (Calls.mono (HK.out w1 (HG.out.below HB1.out)) ?_)
  rintro r w2 ⟨v2, rfl, hnum, hB2⟩
  have HB2 : Hid _ := chain HB1.out hB2
  obtain ⟨a2, cap2, rfl, hc2⟩ := hnum.open
  have HC : Hid _ := hc2
  clear hnum hB2 hc2 HS HK q1 q2 q3
  go_wp2
  go_loopw [8, 24] (fun sv si wr => ∃ k : Nat, k ≤ ps.length ∧ si = .int .i64 (k : Int) ∧ Hid (OwnE w2 wr sv (edAt L (ps.take k)))) (fun _ si _ => ps.length - (intOf si).toNat)
  case atStart => exact ⟨0, Nat.zero_le _, rfl, ⟨World.ownsRow_nil _ _ _ _, Below.refl _ _⟩⟩
  case round =>
    obtain ⟨k, hk, rfl, HI⟩ := hrel
    by_cases hlt : k < ps.length
    · obtain ⟨p, hp⟩ := some_at' hlt
      obtain ⟨g, off, rfl, hc⟩ := HC.out k p hp
      have hc1 := cell_kept HI.out.2 _ _ hc
      have hpl2 := HP.out p (List.mem_of_getElem? hp)
      obtain ⟨e, he⟩ : ∃ e, L[p]? = some e := ⟨_, List.getElem?_eq_getElem hpl2⟩
      have HE : Hid (Calls Tryz.prog 63 _ wr _) := edgeat_any (HG.out.below (chain HB2.out HI.out.2)) p e he
      have HN : Hid (edAt L (ps.take (k + 1)) = edAt L (ps.take k) ++ [e]) := (by
        rw [List.take_add_one, hp, Option.toList_some, edAt_snoc, List.getD_eq_getElem?_getD, he]; rfl : _ = _)
      have hkI : (k : Int) < (ps.length : Int) := by omega
      have hel := edAt_len L (ps.take k)
      rw [List.length_take, Nat.min_eq_left (by omega)] at hel
      clear hc hp he
      go_wp2_with fail
      refine (Calls.mono HE.out ?_)
      rintro r w3 ⟨rfl, hB3⟩
      have hrow := own_keep HI.out.1 hB3
      have HO3 : Hid (OwnE w2 w3 _ (edAt L (ps.take k))) := ⟨hrow, chain HI.out.2 hB3⟩
      have hsz := HO3.out.2.size
      clear hB3
      go_wp2_with (at_builtin; refine wpList_append_own _ rfl _ _ 24 rfl w2.heap.size 38 i0 (.agg #[.int .i64 0, .int .i64 0, .int .i64 0]) 3 24 Tryz.underlying24 hi hz0 hz1 hz2 rfl (by decide) _ _ _ rfl (hrow.alloc _) ⟨w3.heap.size, 0, none⟩ 1 1 [.int .i64 e.1, .int .i64 e.2.1, .int .i64 e.2.2] rfl rfl (src3 _ _ _ _ _) (one3 _ _ _) (by unfold maxLen; omega) (by omega) (by simp; omega) ?_; intro v' w4 hown hgrow hnil)
      have HO2 : Hid _ := ownE_snoc (e := e) HO3.out hown hgrow
      clear hown hgrow hnil hrow
      go_wp2
      go_roundw
      case rel => exact ⟨k + 1, by omega, by go_num, by rw [HN.out]; exact HO2.out⟩
      case measure => simp [intOf]; omega
    · obtain rfl : k = ps.length := by omega
      have HO : Hid (OwnE w _ _ (edAt L ps)) := (by
        have h := HI.out
        rw [List.take_length] at h
        exact ⟨own_base h.1 HB2.out.size, chain HB2.out h.2⟩ : OwnE _ _ _ _)
      clear HI
      go_wp2
      go_ret2
      exact ⟨_, rfl, HO.out⟩
/-- is an edge to a node of a span? -/
def toB (x y : Int) (e : E3) : Bool := decide (x ≤ e.2.2 ∧ e.2.2 < y)
theorem edgesof_to {w : World} {b n s : Nat} {L : List E3} (h : GraphAt w b n s L) (x y : Nat) (hxy : x ≤ y ∧ y ≤ n) :
    Calls Tryz.prog 32 #[.pointer (some ⟨b, 0, none⟩), .agg #[.int .i64 (x : Int), .int .i64 (y : Int)], .func (.func 37) #[] #[]] w fun e w' => ∃ v, e = .returned (.tuple #[v, .int .i64 0]) ∧ OwnE w w' v (L.filter (toB x y)) := by
  have hbd := h.bd
  have := edgesof_yes2 h x y hxy (at_ L (toB x y)) (fun p hp => by obtain ⟨e, he, _⟩ := (at_mem L (toB x y) p).1 hp; exact (List.getElem?_eq_some_iff.1 he).1) (by rw [at_len]; exact Nat.le_trans (List.length_filter_le _ _) hbd.2.2.2.2) (fun W hW => placesto_any hW x y hxy.1 (by omega))
  unfold edAt at this
  rw [at_map] at this
  exact this
set_option maxHeartbeats 1000000 in
theorem only_any (u : Int) (w : World) : Calls Tryz.prog 35 #[.int .i64 u] w fun e w' => e = .returned (.agg #[.int .i64 u, .int .i64 (wrap64 (u + 1))]) ∧ Below w.heap.size w w' := by
  go_enter Tryz.func35, Tryz.ntmps35
  go_wp2
  refine bodyPost_ret (v := .agg #[.int .i64 u, .int .i64 (wrap64 (u + 1))]) (by simp [results, Tryz.results35, go_sem]) rfl ?_
  exact ⟨rfl, below1 _ _⟩
/-- a number is one of n just if the span of it alone is one of n -/
theorem only_span (u : Int) (n : Nat) (hn : n ≤ 10000) (h1 : -9223372036854775808 ≤ u) (h2 : u ≤ 9223372036854775807) : (0 ≤ u ∧ u ≤ wrap64 (u + 1) ∧ wrap64 (u + 1) ≤ (n : Int)) ↔ (0 ≤ u ∧ u < (n : Int)) := by
  unfold wrap64
  omega
set_option maxHeartbeats 2000000 in
theorem gout_any {w : World} {b n s : Nat} {L : List E3} (h : GraphAt w b n s L) (u : Int) (h1 : -9223372036854775808 ≤ u) (h2 : u ≤ 9223372036854775807) :
    Calls Tryz.prog 15 #[.pointer (some ⟨b, 0, none⟩), .int .i64 u] w fun e w' => (¬ (0 ≤ u ∧ u < (n : Int)) ∧ e = .returned (.tuple #[.slice none 0 0, .int .i64 1]) ∧ Below w.heap.size w w') ∨ ((0 ≤ u ∧ u < (n : Int)) ∧ ∃ v, e = .returned (.tuple #[v, .int .i64 0]) ∧ OwnE w w' v (L.filter (fromB u (u + 1)))) := by
  have hbd := h.bd
  have hsp := only_span u n hbd.2.1 h1 h2
  have HO : Hid (Calls Tryz.prog 35 _ w _) := only_any u w
  by_cases hu : 0 ≤ u ∧ u < (n : Int)
  · have e : wrap64 (u + 1) = u + 1 := by
      unfold wrap64
      omega
    rw [e] at HO
    obtain ⟨m, rfl⟩ : ∃ m : Nat, u = (m : Int) := ⟨u.toNat, by omega⟩
    have HE : Hid (∀ W, Below w.heap.size w W → Calls Tryz.prog 32 #[.pointer (some ⟨b, 0, none⟩), .agg #[.int .i64 (m : Int), .int .i64 ((m : Int) + 1)], .func (.func 34) #[] #[]] W fun e w' => ∃ v, e = .returned (.tuple #[v, .int .i64 0]) ∧ OwnE W w' v (L.filter (fromB (m : Int) ((m : Int) + 1)))) := (fun W hW => edgesof_from (h.below hW) m (m + 1) ⟨by omega, by omega⟩ : ∀ W, _)
    have HU : Hid _ := hu
    clear h hu hsp e h1 h2
    go_enter Tryz.func15, Tryz.ntmps15
    go_wp2_with fail
    refine (Calls.mono HO.out ?_)
    rintro e w1 ⟨rfl, hB1⟩
    have HB1 : Hid _ := hB1
    clear hB1
    go_wp2_with fail
    refine (Calls.mono (HE.out w1 HB1.out) ?_)
    rintro e w2 ⟨v, rfl, hO⟩
    have HO2 : Hid (OwnE w w2 v (L.filter (fromB (m : Int) ((m : Int) + 1)))) := (⟨own_base hO.1 HB1.out.size, chain HB1.out hO.2⟩ : OwnE _ _ _ _)
    clear hO
    go_wp2
    go_ret2
    exact .inr ⟨HU.out, v, rfl, HO2.out⟩
  · have HE : Hid (∀ W, Below w.heap.size w W → Calls Tryz.prog 32 #[.pointer (some ⟨b, 0, none⟩), .agg #[.int .i64 u, .int .i64 (wrap64 (u + 1))], .func (.func 34) #[] #[]] W _) := (fun W hW => edgesof_no (h.below hW) u (wrap64 (u + 1)) (fun h => hu (hsp.1 h)) _ : ∀ W, _)
    have HU : Hid _ := hu
    clear h hu hsp h1 h2
    generalize wrap64 (u + 1) = z at HO HE
    go_enter Tryz.func15, Tryz.ntmps15
    go_wp2_with fail
    refine (Calls.mono HO.out ?_)
    rintro e w1 ⟨rfl, hB1⟩
    have HB1 : Hid _ := hB1
    clear hB1
    go_wp2_with fail
    refine (Calls.mono (HE.out w1 HB1.out) ?_)
    rintro e w2 ⟨rfl, hB2⟩
    have HB2 : Hid _ := chain HB1.out hB2
    clear hB2
    go_wp2
    go_ret2
    exact .inl ⟨HU.out, rfl, HB2.out⟩
set_option maxHeartbeats 2000000 in
theorem gin_any {w : World} {b n s : Nat} {L : List E3} (h : GraphAt w b n s L) (u : Int) (h1 : -9223372036854775808 ≤ u) (h2 : u ≤ 9223372036854775807) :
    Calls Tryz.prog 18 #[.pointer (some ⟨b, 0, none⟩), .int .i64 u] w fun e w' => (¬ (0 ≤ u ∧ u < (n : Int)) ∧ e = .returned (.tuple #[.slice none 0 0, .int .i64 1]) ∧ Below w.heap.size w w') ∨ ((0 ≤ u ∧ u < (n : Int)) ∧ ∃ v, e = .returned (.tuple #[v, .int .i64 0]) ∧ OwnE w w' v (L.filter (toB u (u + 1)))) := by
  have hbd := h.bd
  have hsp := only_span u n hbd.2.1 h1 h2
  have HO : Hid (Calls Tryz.prog 35 _ w _) := only_any u w
  by_cases hu : 0 ≤ u ∧ u < (n : Int)
  · have e : wrap64 (u + 1) = u + 1 := by
      unfold wrap64
      omega
    rw [e] at HO
    obtain ⟨m, rfl⟩ : ∃ m : Nat, u = (m : Int) := ⟨u.toNat, by omega⟩
    have HE : Hid (∀ W, Below w.heap.size w W → Calls Tryz.prog 32 #[.pointer (some ⟨b, 0, none⟩), .agg #[.int .i64 (m : Int), .int .i64 ((m : Int) + 1)], .func (.func 37) #[] #[]] W fun e w' => ∃ v, e = .returned (.tuple #[v, .int .i64 0]) ∧ OwnE W w' v (L.filter (toB (m : Int) ((m : Int) + 1)))) := (fun W hW => edgesof_to (h.below hW) m (m + 1) ⟨by omega, by omega⟩ : ∀ W, _)
    have HU : Hid _ := hu
    clear h hu hsp e h1 h2
    go_enter Tryz.func18, Tryz.ntmps18
    go_wp2_with fail
    refine (Calls.mono HO.out ?_)
    rintro e w1 ⟨rfl, hB1⟩
    have HB1 : Hid _ := hB1
    clear hB1
    go_wp2_with fail
    refine (Calls.mono (HE.out w1 HB1.out) ?_)
    rintro e w2 ⟨v, rfl, hO⟩
    have HO2 : Hid (OwnE w w2 v (L.filter (toB (m : Int) ((m : Int) + 1)))) := (⟨own_base hO.1 HB1.out.size, chain HB1.out hO.2⟩ : OwnE _ _ _ _)
    clear hO
    go_wp2
    go_ret2
    exact .inr ⟨HU.out, v, rfl, HO2.out⟩
  · have HE : Hid (∀ W, Below w.heap.size w W → Calls Tryz.prog 32 #[.pointer (some ⟨b, 0, none⟩), .agg #[.int .i64 u, .int .i64 (wrap64 (u + 1))], .func (.func 37) #[] #[]] W _) := (fun W hW => edgesof_no (h.below hW) u (wrap64 (u + 1)) (fun h => hu (hsp.1 h)) _ : ∀ W, _)
    have HU : Hid _ := hu
    clear h hu hsp h1 h2
    generalize wrap64 (u + 1) = z at HO HE
    go_enter Tryz.func18, Tryz.ntmps18
    go_wp2_with fail
    refine (Calls.mono HO.out ?_)
    rintro e w1 ⟨rfl, hB1⟩
    have HB1 : Hid _ := hB1
    clear hB1
    go_wp2_with fail
    refine (Calls.mono (HE.out w1 HB1.out) ?_)
    rintro e w2 ⟨rfl, hB2⟩
    have HB2 : Hid _ := chain HB1.out hB2
    clear hB2
    go_wp2
    go_ret2
    exact .inl ⟨HU.out, rfl, HB2.out⟩
end Go.Proofs.YtphjbbbnbmafnaaGreatDoor.G
