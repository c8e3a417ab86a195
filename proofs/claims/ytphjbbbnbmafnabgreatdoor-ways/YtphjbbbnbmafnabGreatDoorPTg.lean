/-
  Where the targets of those edges of a span of places lie that have one label (Graph.targetsOf): new memory; nothing that was there is written.
-/
import Derived.Test.YtphjbbbnbmafnabGreatDoorPCt
import Derived.Test.YtphjbbbnbmafnabGreatDoorPIo
namespace Go.Proofs.YtphjbbbnbmafnabGreatDoor.G
open Go.RowKit

attribute [local go_sem ↓] Go.wp_at_zero Go.wp_at_succ
theorem only2_any (u : Nat) (hu : u ≤ 1000000) (w : World) : Calls Tryz.prog 61 #[.int .i64 (u : Int)] w fun e w' => e = .returned (.agg #[.int .i64 (u : Int), .int .i64 ((u + 1 : Nat) : Int)]) ∧ Below w.heap.size w w' := by
  have h := only_any (u : Int) w
  rw [show wrap64 ((u : Int) + 1) = ((u + 1 : Nat) : Int) from by unfold wrap64; omega] at h
  exact h
theorem bel_al {a W : World} {o : Obj} (h : Below a.heap.size a W) : Below a.heap.size a (W.alloc o) := h.alloc h.size o
/-- a new box of one number -/
def BoxAt (W : World) (N : Nat) : Prop := W.cell? ⟨N, 0, none⟩ = some (.int .i64 0) ∧ W.frozen? ⟨N, 0, none⟩ = false ∧ N < W.heap.size
theorem BoxAt.below {W W' : World} {N : Nat} (h : BoxAt W N) (hB : Below W.heap.size W W') : BoxAt W' N :=
  ⟨cell_kept hB _ _ h.1, (hB.frozen (p := ⟨N, 0, none⟩) h.2.2).trans h.2.1, Nat.lt_of_lt_of_le h.2.2 hB.size⟩
theorem boxAt_new (W : World) : BoxAt (W.alloc (.cells #[.int .i64 0] 3)) W.heap.size := by
  have h := heap_alloc_new W (.cells #[.int .i64 0] 3)
  exact ⟨by rw [cell_of_row _ _ 0 _ _ _ h]; rfl, frozen_of_row _ _ 0 _ _ h, by simp⟩
theorem box_set {W : World} {N : Nat} {v : Value} (h : BoxAt W N) : (W.setCell ⟨N, 0, none⟩ v).cell? ⟨N, 0, none⟩ = some v := World.cell?_setCell_same _ _ _ h.1
theorem set1_other {W : World} {N B o : Nat} {v z : Value} (hne : B ≠ N) (h : W.cell? ⟨B, o, none⟩ = some z) : (W.setCell ⟨N, 0, none⟩ v).cell? ⟨B, o, none⟩ = some z := by
  rw [World.cell?_setCell_other _ ⟨N, 0, none⟩ ⟨B, o, none⟩ v (fun e => hne (congrArg Addr.block e).symm)]
  exact h
set_option maxHeartbeats 8000000 in
set_option maxRecDepth 100000 in
theorem targets_any {w : World} {b n s : Nat} {L : List E3} (h : GraphAt w b n s L) (x y c : Nat) (hx : x ≤ L.length) (hy : y ≤ L.length) (hc : c < 255) :
    Calls Tryz.prog 116 #[.pointer (some ⟨b, 0, none⟩), .agg #[.int .i64 (x : Int), .int .i64 (y : Int)], .int .u8 (c : Int)] w fun e w' => e = .returned (.agg #[.int .i64 ((bel (labs L) 0 L.length c + cnt (eqf (labs L) c) x : Nat) : Int), .int .i64 ((bel (labs L) 0 L.length c + cnt (eqf (labs L) c) y : Nat) : Int)]) ∧ Below w.heap.size w w' := by
  obtain ⟨W0, hW0⟩ : ∃ W0, W0 = (((w.alloc (.cells #[.pointer (some ⟨b, 0, none⟩)] 29)).alloc (.cells #[.int .i64 (x : Int), .int .i64 (y : Int)] 133)).alloc (.cells #[.int .u8 (c : Int)] 5)).alloc (.cells #[.int .i64 0, .int .i64 0] 133) := ⟨_, rfl⟩
  have hJ : Below w.heap.size w W0 := by
    rw [hW0]
    have e1 := below1 w (.cells #[.pointer (some ⟨b, 0, none⟩)] 29)
    have e2 := e1.alloc e1.size (.cells #[.int .i64 (x : Int), .int .i64 (y : Int)] 133)
    have e3 := e2.alloc e2.size (.cells #[.int .u8 (c : Int)] 5)
    exact e3.alloc e3.size _
  have k0 : W0.cell? ⟨w.heap.size, 0, none⟩ = some (.pointer (some ⟨b, 0, none⟩)) := by
    rw [hW0]; exact cell_kept (below1 _ _) _ _ (cell_kept (below1 _ _) _ _ (cell_kept (below1 _ _) _ _ (by simp)))
  have hbx := box2 (w.alloc (.cells #[.pointer (some ⟨b, 0, none⟩)] 29)) (.int .i64 (x : Int)) (.int .i64 (y : Int)) 133
  rw [World.size_alloc] at hbx
  have k1 : W0.cell? ⟨w.heap.size + 1, 0, none⟩ = some (.int .i64 (x : Int)) := by
    rw [hW0]; exact cell_kept (below1 _ _) _ _ (cell_kept (below1 _ _) _ _ hbx.1)
  have k2 : W0.cell? ⟨w.heap.size + 1, 1, none⟩ = some (.int .i64 (y : Int)) := by
    rw [hW0]; exact cell_kept (below1 _ _) _ _ (cell_kept (below1 _ _) _ _ hbx.2)
  have k3 : W0.cell? ⟨w.heap.size + 1 + 1, 0, none⟩ = some (.int .u8 (c : Int)) := by
    rw [hW0]; exact cell_kept (below1 _ _) _ _ (by rw [cell_of_row _ _ 0 _ _ _ (by have := heap_alloc_new ((w.alloc (.cells #[.pointer (some ⟨b, 0, none⟩)] 29)).alloc (.cells #[.int .i64 (x : Int), .int .i64 (y : Int)] 133)) (.cells #[.int .u8 (c : Int)] 5); rwa [World.size_alloc, World.size_alloc] at this)]; rfl)
  have hsp : SpanAt W0 (w.heap.size + 1 + 1 + 1) := by rw [hW0]; exact spanAt_new _ _ (by rw [World.size_alloc, World.size_alloc, World.size_alloc])
  clear hbx
  have hcI : (c : Int) < 255 := by omega
  have hcJ : (0 : Int) ≤ (c : Int) := by omega
  have hg := h.below hJ
  have hbd := h.bd
  obtain ⟨bl, gl, h4, hs⟩ := hg.lab
  have hll : (labs L).length = L.length := by simp [labs]
  have hX : bel (labs L) 0 L.length c ≤ 1000000 := Nat.le_trans (by rw [← hll]; exact bel_le _ _ _ _) (by rw [hll]; omega)
  have HS : Hid (∀ W, Below W0.heap.size W0 W → SeqAt 8 W bl gl (labs L)) := (fun W hB => hs.below hB : ∀ W, _)
  have HW : Hid (∀ W, Below W0.heap.size W0 W → Calls Tryz.prog 135 #[.pointer (some ⟨bl, 0, none⟩)] W _) := fun W h => S8.whole_any (HS.out W h)
  have HSp : Hid (∀ W, Below W0.heap.size W0 W → Calls Tryz.prog 138 #[S8.belowV bl, .agg #[.int .i64 0, .int .i64 ((labs L).length : Int)], .agg #[.int .i64 (c : Int), .int .i64 ((c + 1 : Nat) : Int)]] W _) := fun W h => S8.spansort_any (HS.out W h) 0 (labs L).length (Nat.zero_le _) (Nat.le_refl _) c (c + 1) (by omega) (by omega)
  have HOn : Hid (∀ W, Calls Tryz.prog 61 #[.int .i64 (IntKind.i64.wrap (c : Int))] W fun e w' => e = .returned (.agg #[.int .i64 (c : Int), .int .i64 ((c + 1 : Nat) : Int)]) ∧ Below W.heap.size W w') := (fun W => by rw [show IntKind.i64.wrap (c : Int) = (c : Int) from by rw [IntKind.wrap_i64]; omega]; exact only2_any c (by omega) W : ∀ W, _)
  rw [hll] at HW HSp
  generalize bel (labs L) 0 L.length c = X at HSp hX ⊢
  generalize bel (labs L) 0 L.length (c + 1) = Y at HSp
  have hfd : ∀ W, (Instr.field 133 (.agg #[.int .i64 (X : Int), .int .i64 (Y : Int)]) 0).run Tryz.prog W = .ok (.int .i64 (X : Int)) W := fun _ => by kernel_rfl
  go_enter Tryz.func116, Tryz.ntmps116
  go_upto_region 1 with fail
  rw [← hW0]
  have hJ0 : Below W0.heap.size W0 W0 := Below.refl _ _
  have HW0 : Hid _ := hW0
  have HG : Hid _ := hg
  have HJ : Hid _ := hJ
  have HXY : Hid (x ≤ L.length ∧ y ≤ L.length ∧ c < 256 ∧ X ≤ 1000000) := ⟨hx, hy, by omega, hX⟩
  have m0 := World.block_lt_of_cell? _ _ k0
  have m3 := World.block_lt_of_cell? _ _ k3
  have m4 := World.block_lt_of_cell? _ _ h4
  simp only at m0 m3 m4
  clear hW0 h hs hg hJ
  go_cut [7] (fun s7 wx => ∃ F, s7 = .pointer (some ⟨F, 0, none⟩) ∧ Hid (Below W0.heap.size W0 wx ∧ wx.cell? ⟨F, 0, none⟩ = some (.int .i64 (X : Int))))
  case first =>
    go_region_held3 (fun w' => w'.cell? ⟨w.heap.size, 0, none⟩ = some (.pointer (some ⟨b, 0, none⟩)) ∧ w'.cell? ⟨w.heap.size + 1 + 1, 0, none⟩ = some (.int .u8 (c : Int)) ∧ w'.cell? ⟨b, 4, none⟩ = some (.pointer (some ⟨bl, 0, none⟩)))
      (first | (refine ⟨?_, ?_, ?_⟩ <;> assumption) | (refine ⟨?_, ?_, ?_⟩ <;> (refine set1_other ?_ ?_ <;> first | assumption | omega | exact cell_kept (below1 _ _) _ _ (by assumption))) | (go_keep; done))
      (first
        | (go_at_call 135; refine (HW.out _ ?_).mono ?_; (repeat (first | exact hJ0 | refine Below.drew ?_ | refine bel_al ?_)); rintro r w1 ⟨rfl, hB1⟩; have hJ1 : Below W0.heap.size W0 w1 := (by refine chain ?_ hB1; repeat (first | exact hJ0 | refine Below.drew ?_ | refine bel_al ?_)); have q1 := cell_kept hJ1 _ _ k0; have q2 := cell_kept hJ1 _ _ k3; have q3 := cell_kept hJ1 _ _ h4; have z1 := hJ1.size; clear hJ0; have hJ0 := hJ1; clear hJ1; (first | have b1 : BoxAt w1 W0.heap.size := BoxAt.below (boxAt_new W0.drew) hB1 | have b1 : BoxAt w1 w2.heap.size := BoxAt.below (boxAt_new w2) hB1 | have b1 : BoxAt w1 W0.heap.size := BoxAt.below b2 hB1 | skip); clear hB1; (try obtain ⟨c1, d1, e1⟩ := id b1))
        | (go_at_call 61; refine (HOn.out _).mono ?_; rintro r w2 ⟨rfl, hB2⟩; have hJ1 : Below W0.heap.size W0 w2 := (by refine chain ?_ hB2; repeat (first | exact hJ0 | refine Below.drew ?_ | refine bel_al ?_)); have q4 := cell_kept hJ1 _ _ k0; have q5 := cell_kept hJ1 _ _ k3; have q6 := cell_kept hJ1 _ _ h4; have z2 := hJ1.size; clear hJ0; have hJ0 := hJ1; clear hJ1; (first | have b2 : BoxAt w2 W0.heap.size := BoxAt.below (boxAt_new W0.drew) hB2 | have b2 : BoxAt w2 w1.heap.size := BoxAt.below (boxAt_new w1) hB2 | have b2 : BoxAt w2 W0.heap.size := BoxAt.below b1 hB2 | skip); clear hB2; (try obtain ⟨c2, d2, e2⟩ := id b2))
        | (go_at_call 138; refine (HSp.out _ ?_).mono ?_; (repeat (first | exact hJ0 | refine Below.drew ?_ | refine bel_al ?_)); rintro r w3 ⟨rfl, hB3⟩; have hJ1 : Below W0.heap.size W0 w3 := (by refine chain ?_ hB3; repeat (first | exact hJ0 | refine Below.drew ?_ | refine bel_al ?_)); have q7 := cell_kept hJ1 _ _ k0; have q8 := cell_kept hJ1 _ _ k3; have q9 := cell_kept hJ1 _ _ h4; have z3 := hJ1.size; clear hJ0; have hJ0 := hJ1; clear hJ1; (first | have b3 : BoxAt w3 w1.heap.size := BoxAt.below (boxAt_new w1) hB3 | have b3 : BoxAt w3 w2.heap.size := BoxAt.below (boxAt_new w2) hB3 | have b3 : BoxAt w3 W0.heap.size := BoxAt.below b1 hB3 | have b3 : BoxAt w3 W0.heap.size := BoxAt.below b2 hB3 | have b3 : BoxAt w3 w1.heap.size := BoxAt.below b2 hB3 | have b3 : BoxAt w3 w2.heap.size := BoxAt.below b1 hB3 | skip); clear hB3; (try obtain ⟨c3, d3, e3⟩ := id b3)))
    all_goals
      go_wp2_with fail
      go_meet
      case rel =>
        first
          | exact ⟨_, rfl, hJ0.setCell (p := ⟨W0.heap.size, 0, none⟩) (Nat.le_refl _) _, box_set b3⟩
          | exact ⟨_, rfl, hJ0.setCell (p := ⟨w1.heap.size, 0, none⟩) z1 _, box_set b3⟩
          | exact ⟨_, rfl, hJ0.setCell (p := ⟨w2.heap.size, 0, none⟩) z2 _, box_set b3⟩
          | exact ⟨_, rfl, (bel_al hJ0).setCell (p := ⟨w3.heap.size, 0, none⟩) z3 _, box_set (boxAt_new w3)⟩
          | exact ⟨_, rfl, bel_al hJ0, by simp⟩
  case rest =>
    obtain ⟨F, rfl, HC⟩ := hcut
    have hBc := HC.out.1
    have t1 := cell_kept hBc _ _ k1
    have t2 := cell_kept hBc _ _ k2
    have hspc := hsp.below hBc
    obtain ⟨s0, s1, s2, s3, s4⟩ := id hspc
    have HT : Hid (TgAt wc b n s L w.heap.size (w.heap.size + 1 + 1) F c X) := (⟨HG.out.below hBc, HXY.out.2.2.1, HXY.out.2.2.2, cell_kept hBc _ _ k0, cell_kept hBc _ _ k3, HC.out.2⟩ : TgAt _ _ _ _ _ _ _ _ _ _)
    have HE : Hid (Calls Tryz.prog 95 _ wc _) := ends_targets HT.out x y HXY.out.1 HXY.out.2.1
    have HB : Hid _ := chain HJ.out hBc
    have HSc : Hid _ := hspc
    clear hBc k0 k1 k2 k3 h4 hspc hsp hfd HW HSp HOn
    go_wp2_with fail
    refine (Calls.mono HE.out ?_)
    rintro e w4 ⟨rfl, hB4⟩
    have hsp4 := SpanAt.below HSc.out hB4
    obtain ⟨v0, v1, v2, v3, v4⟩ := id hsp4
    have HB4 : Hid _ := chain HB.out hB4
    have HS4 : Hid _ := hsp4
    clear hB4 hsp4 s0 s1 s2 s3 s4 t1 t2
    go_wp2
    refine bodyPost_ret (v := .agg #[.int .i64 ((X + cnt (eqf (labs L) c) x : Nat) : Int), .int .i64 ((X + cnt (eqf (labs L) c) y : Nat) : Int)]) (by simp [results, Tryz.results116, go_sem, *]) rfl ?_
    exact ⟨rfl, (HB4.out.setCell (p := ⟨w.heap.size + 1 + 1 + 1, 0, none⟩) (by simp only; omega) _).setCell (p := ⟨w.heap.size + 1 + 1 + 1, 1, none⟩) (by simp only; omega) _⟩
end Go.Proofs.YtphjbbbnbmafnabGreatDoor.G
