/-
  Where the targets of those edges of a span of places lie that have one label (Graph.targetsOf), and how many of them go to a span of nodes (Graph.count): new memory; nothing that was there is written.
  Where the targets of those edges of a span of places lie that have one label (Graph.targetsOf): new memory; nothing that was there is written.
  How many edges there are within spans (Graph.count, Count where all three are spans), and whether there is an edge (Has, where it is within the size): what they answer; new memory; nothing that was there is written.
  Count where all three are spans, and Has where the edge is within the size: what they answer; new memory; nothing that was there is written.
  Count where one of the three is no span, and Has where the edge is not within the size: ErrRange; new memory; nothing that was there is written.
-/
import Derived.Test.YtphjbbbnbmafnaaGreatDoorPSp16
import Derived.Test.YtphjbbbnbmafnaaGreatDoorPIo
import Derived.BigQuiet
namespace Go.Proofs.YtphjbbbnbmafnaaGreatDoor.G
open Go.RowKit

set_option maxHeartbeats 2000000 in
theorem targets1_any {w : World} {b n s : Nat} {L : List E3} (h : GraphAt w b n s L) (B C F : Nat) (c f : Nat) (hc : c < 256) (hf : f ≤ 1000000) (hB : w.cell? ⟨B, 0, none⟩ = some (.pointer (some ⟨b, 0, none⟩))) (hC : w.cell? ⟨C, 0, none⟩ = some (.int .u8 (c : Int))) (hF : w.cell? ⟨F, 0, none⟩ = some (.int .i64 (f : Int))) (p : Nat) (hp : p ≤ L.length) :
    Calls Tryz.prog 130 #[.int .i64 (p : Int), .pointer (some ⟨B, 0, none⟩), .pointer (some ⟨C, 0, none⟩), .pointer (some ⟨F, 0, none⟩)] w fun r w' => r = .returned (.int .i64 ((f + cnt (eqf (labs L) c) p : Nat) : Int)) ∧ Below w.heap.size w w' := by
  obtain ⟨bl, gl, h4, hs⟩ := h.lab
  have hL := h.ok.1.2.2.2.2
  have hll : (labs L).length = L.length := by simp [labs]
  have HS : Hid _ := hs
  have HR : Hid (∀ W, SeqAt 8 W bl gl (labs L) → Calls Tryz.prog 131 #[.pointer (some ⟨bl, 0, none⟩), .int .u8 (c : Int), .int .i64 (p : Int)] W _) := fun W h => S8.rank_yes h c (by omega) p (by rw [hll]; exact hp)
  have hcn := cnt_le (eqf (labs L) c) p
  generalize cnt (eqf (labs L) c) p = k at HR hcn
  clear h hs hll
  go_enter Tryz.func130, Tryz.ntmps130
  go_wp2_with fail
  go_region_held3 (fun w' => w'.cell? ⟨B, 0, none⟩ = some (.pointer (some ⟨b, 0, none⟩)) ∧ w'.cell? ⟨C, 0, none⟩ = some (.int .u8 (c : Int)) ∧ w'.cell? ⟨F, 0, none⟩ = some (.int .i64 (f : Int)) ∧ w'.cell? ⟨b, 4, none⟩ = some (.pointer (some ⟨bl, 0, none⟩))) (go_keep)
    (first
      | (go_at_call 131; refine (HR.out _ ?_).mono ?_; exact (HS.out.kept (fun _ _ h => h)); rintro r w1 ⟨rfl, hB1d⟩; have hB1 := ((Below.refl w.heap.size w).drew).trans hB1d; have q1 := cell_kept hB1 _ _ hB; have q2 := cell_kept hB1 _ _ hC; have q3 := cell_kept hB1 _ _ hF; have q4 := cell_kept hB1 _ _ h4))
  have HB1 : Hid (Below w.heap.size w w1) := hB1
  clear hB1 hB1d
  go_wp2
  go_ret
  exact ⟨by go_num, HB1.out⟩
/-- a graph and the three boxes of targetsOf's closure -/
structure TgAt (w : World) (b n s : Nat) (L : List E3) (B C F c f : Nat) : Prop where
  g : GraphAt w b n s L
  hc : c < 256
  hf : f ≤ 1000000
  cB : w.cell? ⟨B, 0, none⟩ = some (.pointer (some ⟨b, 0, none⟩))
  cC : w.cell? ⟨C, 0, none⟩ = some (.int .u8 (c : Int))
  cF : w.cell? ⟨F, 0, none⟩ = some (.int .i64 (f : Int))
theorem TgAt.kept {w w' : World} {b n s : Nat} {L : List E3} {B C F c f : Nat} (h : TgAt w b n s L B C F c f) (hk : ∀ p v, w.cell? p = some v → w'.cell? p = some v) : TgAt w' b n s L B C F c f :=
  ⟨h.g.kept hk, h.hc, h.hf, hk _ _ h.cB, hk _ _ h.cC, hk _ _ h.cF⟩
theorem TgAt.below {w w' : World} {b n s : Nat} {L : List E3} {B C F c f : Nat} (h : TgAt w b n s L B C F c f) (hB : Below w.heap.size w w') : TgAt w' b n s L B C F c f := h.kept (cell_kept hB)
set_option maxHeartbeats 4000000 in
theorem ends_targets {w : World} {b n s : Nat} {L : List E3} {B C F c f : Nat} (h : TgAt w b n s L B C F c f) (x y : Nat) (hx : x ≤ L.length) (hy : y ≤ L.length) :
    Calls Tryz.prog 64 #[.agg #[.int .i64 (x : Int), .int .i64 (y : Int)], .func (.func 130) #[] #[.pointer (some ⟨B, 0, none⟩), .pointer (some ⟨C, 0, none⟩), .pointer (some ⟨F, 0, none⟩)]] w fun e w' => e = .returned (.agg #[.int .i64 ((f + cnt (eqf (labs L) c) x : Nat) : Int), .int .i64 ((f + cnt (eqf (labs L) c) y : Nat) : Int)]) ∧ Below w.heap.size w w' := by
  have hB := below2 w (.cells #[.int .i64 (x : Int), .int .i64 (y : Int)] 40) (.cells #[.int .i64 0, .int .i64 0] 40)
  have HB : Hid _ := hB
  have HG : Hid _ := h.below hB
  obtain ⟨k0, k1, k2, k3, m0, m1⟩ := two_spans w (.int .i64 (x : Int)) (.int .i64 (y : Int)) (.int .i64 0) (.int .i64 0) 40
  have HX : Hid (∀ W, TgAt W b n s L B C F c f → Calls Tryz.prog 130 #[.int .i64 (x : Int), .pointer (some ⟨B, 0, none⟩), .pointer (some ⟨C, 0, none⟩), .pointer (some ⟨F, 0, none⟩)] W _) := fun W h => targets1_any h.g B C F c f h.hc h.hf h.cB h.cC h.cF x hx
  have HY : Hid (∀ W, TgAt W b n s L B C F c f → Calls Tryz.prog 130 #[.int .i64 (y : Int), .pointer (some ⟨B, 0, none⟩), .pointer (some ⟨C, 0, none⟩), .pointer (some ⟨F, 0, none⟩)] W _) := fun W h => targets1_any h.g B C F c f h.hc h.hf h.cB h.cC h.cF y hy
  clear h hB hx hy
  go_enter Tryz.func64, Tryz.ntmps64
  go_wp2_with fail
  go_region_held3 (fun w' => w'.cell? ⟨w.heap.size, 0, none⟩ = some (.int .i64 (x : Int)) ∧ w'.cell? ⟨w.heap.size, 1, none⟩ = some (.int .i64 (y : Int))) (go_keep)
    (first
      | (go_at_call_of 130 (Value.int IntKind.i64 (x : Int)); refine (HX.out _ ?_).mono ?_; (first | exact (HG.out.kept (fun _ _ h => h)) | exact (HG.out.below hBy) | exact ((HG.out.below hBy).kept (fun _ _ h => h))); rintro r wx ⟨rfl, hB0x⟩; have hBx : Below ((w.alloc (.cells #[.int .i64 (x : Int), .int .i64 (y : Int)] 40)).alloc (.cells #[.int .i64 0, .int .i64 0] 40)).heap.size ((w.alloc (.cells #[.int .i64 (x : Int), .int .i64 (y : Int)] 40)).alloc (.cells #[.int .i64 0, .int .i64 0] 40)) wx := (by first | exact (((Below.refl _ _).drew).trans hB0x) | exact chain hBy hB0x | exact chain hBy (((Below.refl _ _).drew).trans hB0x)); have q1x := cell_kept hBx _ _ k0; have q2x := cell_kept hBx _ _ k1; have q3x := cell_kept hBx _ _ k2; have q4x := cell_kept hBx _ _ k3; have q5x := (hBx.frozen (p := ⟨w.heap.size + 1, 0, none⟩) (by simp)).trans m0; have q6x := (hBx.frozen (p := ⟨w.heap.size + 1, 1, none⟩) (by simp)).trans m1; have q7x := hBx.size)
      | (go_at_call_of 130 (Value.int IntKind.i64 (y : Int)); refine (HY.out _ ?_).mono ?_; (first | exact (HG.out.kept (fun _ _ h => h)) | exact (HG.out.below hBx) | exact ((HG.out.below hBx).kept (fun _ _ h => h))); rintro r wy ⟨rfl, hB0y⟩; have hBy : Below ((w.alloc (.cells #[.int .i64 (x : Int), .int .i64 (y : Int)] 40)).alloc (.cells #[.int .i64 0, .int .i64 0] 40)).heap.size ((w.alloc (.cells #[.int .i64 (x : Int), .int .i64 (y : Int)] 40)).alloc (.cells #[.int .i64 0, .int .i64 0] 40)) wy := (by first | exact (((Below.refl _ _).drew).trans hB0y) | exact chain hBx hB0y | exact chain hBx (((Below.refl _ _).drew).trans hB0y)); have q1y := cell_kept hBy _ _ k0; have q2y := cell_kept hBy _ _ k1; have q3y := cell_kept hBy _ _ k2; have q4y := cell_kept hBy _ _ k3; have q5y := (hBy.frozen (p := ⟨w.heap.size + 1, 0, none⟩) (by simp)).trans m0; have q6y := (hBy.frozen (p := ⟨w.heap.size + 1, 1, none⟩) (by simp)).trans m1; have q7y := hBy.size))
  all_goals
    go_wp2
    refine bodyPost_ret (v := .agg #[.int .i64 ((f + cnt (eqf (labs L) c) x : Nat) : Int), .int .i64 ((f + cnt (eqf (labs L) c) y : Nat) : Int)]) (by simp [results, Tryz.results64, go_sem, *]) rfl ?_
    first
      | exact ⟨rfl, ((chain HB.out hBy).setCell (p := ⟨w.heap.size + 1, 0, none⟩) (Nat.le_succ _) _).setCell (p := ⟨w.heap.size + 1, 1, none⟩) (Nat.le_succ _) _⟩
      | exact ⟨rfl, ((chain HB.out hBx).setCell (p := ⟨w.heap.size + 1, 0, none⟩) (Nat.le_succ _) _).setCell (p := ⟨w.heap.size + 1, 1, none⟩) (Nat.le_succ _) _⟩
end Go.Proofs.YtphjbbbnbmafnaaGreatDoor.G

namespace Go.Proofs.YtphjbbbnbmafnaaGreatDoor.G
open Go.RowKit

attribute [local go_sem ↓] Go.wp_at_zero Go.wp_at_succ
theorem only2_any (u : Nat) (hu : u ≤ 1000000) (w : World) : Calls Tryz.prog 35 #[.int .i64 (u : Int)] w fun e w' => e = .returned (.agg #[.int .i64 (u : Int), .int .i64 ((u + 1 : Nat) : Int)]) ∧ Below w.heap.size w w' := by
  have h := only_any (u : Int) w
  rw [show wrap64 ((u : Int) + 1) = ((u + 1 : Nat) : Int) from by unfold wrap64; omega] at h
  exact h
theorem bel_al {a W : World} {o : Obj} (h : Below a.heap.size a W) : Below a.heap.size a (W.alloc o) := h.alloc h.size o
/-- a new box of one number -/
def BoxAt (W : World) (N : Nat) : Prop := W.cell? ⟨N, 0, none⟩ = some (.int .i64 0) ∧ W.frozen? ⟨N, 0, none⟩ = false ∧ N < W.heap.size
theorem BoxAt.below {W W' : World} {N : Nat} (h : BoxAt W N) (hB : Below W.heap.size W W') : BoxAt W' N :=
  ⟨cell_kept hB _ _ h.1, (hB.frozen (p := ⟨N, 0, none⟩) h.2.2).trans h.2.1, Nat.lt_of_lt_of_le h.2.2 hB.size⟩
theorem boxAt_new (W : World) : BoxAt (W.alloc (.cells #[.int .i64 0] 3)) W.heap.size := by
  have h := heap_alloc_new W (.cells #[.int .i64 0] 3)
  exact ⟨by rw [cell_of_row _ _ 0 _ _ _ h]; rfl, frozen_of_row _ _ 0 _ _ h, by simp⟩
theorem box_set {W : World} {N : Nat} {v : Value} (h : BoxAt W N) : (W.setCell ⟨N, 0, none⟩ v).cell? ⟨N, 0, none⟩ = some v := World.cell?_setCell_same _ _ _ h.1
theorem set1_other {W : World} {N B o : Nat} {v z : Value} (hne : B ≠ N) (h : W.cell? ⟨B, o, none⟩ = some z) : (W.setCell ⟨N, 0, none⟩ v).cell? ⟨B, o, none⟩ = some z := by
  rw [World.cell?_setCell_other _ ⟨N, 0, none⟩ ⟨B, o, none⟩ v (fun e => hne (congrArg Addr.block e).symm)]
  exact h
set_option maxHeartbeats 8000000 in
set_option maxRecDepth 100000 in
theorem targets_any {w : World} {b n s : Nat} {L : List E3} (h : GraphAt w b n s L) (x y c : Nat) (hx : x ≤ L.length) (hy : y ≤ L.length) (hc : c < 255) :
    Calls Tryz.prog 72 #[.pointer (some ⟨b, 0, none⟩), .agg #[.int .i64 (x : Int), .int .i64 (y : Int)], .int .u8 (c : Int)] w fun e w' => e = .returned (.agg #[.int .i64 ((bel (labs L) 0 L.length c + cnt (eqf (labs L) c) x : Nat) : Int), .int .i64 ((bel (labs L) 0 L.length c + cnt (eqf (labs L) c) y : Nat) : Int)]) ∧ Below w.heap.size w w' := by
  obtain ⟨W0, hW0⟩ : ∃ W0, W0 = (((w.alloc (.cells #[.pointer (some ⟨b, 0, none⟩)] 47)).alloc (.cells #[.int .i64 (x : Int), .int .i64 (y : Int)] 40)).alloc (.cells #[.int .u8 (c : Int)] 5)).alloc (.cells #[.int .i64 0, .int .i64 0] 40) := ⟨_, rfl⟩
  have hJ : Below w.heap.size w W0 := by
    rw [hW0]
    have e1 := below1 w (.cells #[.pointer (some ⟨b, 0, none⟩)] 47)
    have e2 := e1.alloc e1.size (.cells #[.int .i64 (x : Int), .int .i64 (y : Int)] 40)
    have e3 := e2.alloc e2.size (.cells #[.int .u8 (c : Int)] 5)
    exact e3.alloc e3.size _
  have k0 : W0.cell? ⟨w.heap.size, 0, none⟩ = some (.pointer (some ⟨b, 0, none⟩)) := by
    rw [hW0]; exact cell_kept (below1 _ _) _ _ (cell_kept (below1 _ _) _ _ (cell_kept (below1 _ _) _ _ (by simp)))
  have hbx := box2 (w.alloc (.cells #[.pointer (some ⟨b, 0, none⟩)] 47)) (.int .i64 (x : Int)) (.int .i64 (y : Int)) 40
  rw [World.size_alloc] at hbx
  have k1 : W0.cell? ⟨w.heap.size + 1, 0, none⟩ = some (.int .i64 (x : Int)) := by
    rw [hW0]; exact cell_kept (below1 _ _) _ _ (cell_kept (below1 _ _) _ _ hbx.1)
  have k2 : W0.cell? ⟨w.heap.size + 1, 1, none⟩ = some (.int .i64 (y : Int)) := by
    rw [hW0]; exact cell_kept (below1 _ _) _ _ (cell_kept (below1 _ _) _ _ hbx.2)
  have k3 : W0.cell? ⟨w.heap.size + 1 + 1, 0, none⟩ = some (.int .u8 (c : Int)) := by
    rw [hW0]; exact cell_kept (below1 _ _) _ _ (by rw [cell_of_row _ _ 0 _ _ _ (by have := heap_alloc_new ((w.alloc (.cells #[.pointer (some ⟨b, 0, none⟩)] 47)).alloc (.cells #[.int .i64 (x : Int), .int .i64 (y : Int)] 40)) (.cells #[.int .u8 (c : Int)] 5); rwa [World.size_alloc, World.size_alloc] at this)]; rfl)
  have hsp : SpanAt W0 (w.heap.size + 1 + 1 + 1) := by rw [hW0]; exact spanAt_new _ _ (by rw [World.size_alloc, World.size_alloc, World.size_alloc])
  clear hbx
  have hcI : (c : Int) < 255 := by omega
  have hcJ : (0 : Int) ≤ (c : Int) := by omega
  have hg := h.below hJ
  have hbd := h.bd
  obtain ⟨bl, gl, h4, hs⟩ := hg.lab
  have hll : (labs L).length = L.length := by simp [labs]
  have hX : bel (labs L) 0 L.length c ≤ 1000000 := Nat.le_trans (by rw [← hll]; exact bel_le _ _ _ _) (by rw [hll]; omega)
  have HS : Hid (∀ W, Below W0.heap.size W0 W → SeqAt 8 W bl gl (labs L)) := (fun W hB => hs.below hB : ∀ W, _)
  have HW : Hid (∀ W, Below W0.heap.size W0 W → Calls Tryz.prog 122 #[.pointer (some ⟨bl, 0, none⟩)] W _) := fun W h => S8.whole_any (HS.out W h)
  have HSp : Hid (∀ W, Below W0.heap.size W0 W → Calls Tryz.prog 129 #[S8.belowV bl, .agg #[.int .i64 0, .int .i64 ((labs L).length : Int)], .agg #[.int .i64 (c : Int), .int .i64 ((c + 1 : Nat) : Int)]] W _) := fun W h => S8.spansort_any (HS.out W h) 0 (labs L).length (Nat.zero_le _) (Nat.le_refl _) c (c + 1) (by omega) (by omega)
  have HOn : Hid (∀ W, Calls Tryz.prog 35 #[.int .i64 (IntKind.i64.wrap (c : Int))] W fun e w' => e = .returned (.agg #[.int .i64 (c : Int), .int .i64 ((c + 1 : Nat) : Int)]) ∧ Below W.heap.size W w') := (fun W => by rw [show IntKind.i64.wrap (c : Int) = (c : Int) from by rw [IntKind.wrap_i64]; omega]; exact only2_any c (by omega) W : ∀ W, _)
  rw [hll] at HW HSp
  generalize bel (labs L) 0 L.length c = X at HSp hX ⊢
  generalize bel (labs L) 0 L.length (c + 1) = Y at HSp
  have hfd : ∀ W, (Instr.field 40 (.agg #[.int .i64 (X : Int), .int .i64 (Y : Int)]) 0).run Tryz.prog W = .ok (.int .i64 (X : Int)) W := fun _ => by kernel_rfl
  go_enter Tryz.func72, Tryz.ntmps72
  go_upto_region 1 with fail
  rw [← hW0]
  have hJ0 : Below W0.heap.size W0 W0 := Below.refl _ _
  have HW0 : Hid _ := hW0
  have HG : Hid _ := hg
  have HJ : Hid _ := hJ
  have HXY : Hid (x ≤ L.length ∧ y ≤ L.length ∧ c < 256 ∧ X ≤ 1000000) := ⟨hx, hy, by omega, hX⟩
  have m0 := World.block_lt_of_cell? _ _ k0
  have m3 := World.block_lt_of_cell? _ _ k3
  have m4 := World.block_lt_of_cell? _ _ h4
  simp only at m0 m3 m4
  clear hW0 h hs hg hJ
  go_cut [7] (fun s7 wx => ∃ F, s7 = .pointer (some ⟨F, 0, none⟩) ∧ Hid (Below W0.heap.size W0 wx ∧ wx.cell? ⟨F, 0, none⟩ = some (.int .i64 (X : Int))))
  case first =>
    go_region_held3 (fun w' => w'.cell? ⟨w.heap.size, 0, none⟩ = some (.pointer (some ⟨b, 0, none⟩)) ∧ w'.cell? ⟨w.heap.size + 1 + 1, 0, none⟩ = some (.int .u8 (c : Int)) ∧ w'.cell? ⟨b, 4, none⟩ = some (.pointer (some ⟨bl, 0, none⟩)))
      (first | (refine ⟨?_, ?_, ?_⟩ <;> assumption) | (refine ⟨?_, ?_, ?_⟩ <;> (refine set1_other ?_ ?_ <;> first | assumption | omega | exact cell_kept (below1 _ _) _ _ (by assumption))) | (go_keep; done))
      (first
        | (go_at_call 122; refine (HW.out _ ?_).mono ?_; (repeat (first | exact hJ0 | refine Below.drew ?_ | refine bel_al ?_)); rintro r w1 ⟨rfl, hB1⟩; have hJ1 : Below W0.heap.size W0 w1 := (by refine chain ?_ hB1; repeat (first | exact hJ0 | refine Below.drew ?_ | refine bel_al ?_)); have q1 := cell_kept hJ1 _ _ k0; have q2 := cell_kept hJ1 _ _ k3; have q3 := cell_kept hJ1 _ _ h4; have z1 := hJ1.size; clear hJ0; have hJ0 := hJ1; clear hJ1; (first | have b1 : BoxAt w1 W0.heap.size := BoxAt.below (boxAt_new W0.drew) hB1 | have b1 : BoxAt w1 w2.heap.size := BoxAt.below (boxAt_new w2) hB1 | have b1 : BoxAt w1 W0.heap.size := BoxAt.below b2 hB1 | skip); clear hB1; (try obtain ⟨c1, d1, e1⟩ := id b1))
        | (go_at_call 35; refine (HOn.out _).mono ?_; rintro r w2 ⟨rfl, hB2⟩; have hJ1 : Below W0.heap.size W0 w2 := (by refine chain ?_ hB2; repeat (first | exact hJ0 | refine Below.drew ?_ | refine bel_al ?_)); have q4 := cell_kept hJ1 _ _ k0; have q5 := cell_kept hJ1 _ _ k3; have q6 := cell_kept hJ1 _ _ h4; have z2 := hJ1.size; clear hJ0; have hJ0 := hJ1; clear hJ1; (first | have b2 : BoxAt w2 W0.heap.size := BoxAt.below (boxAt_new W0.drew) hB2 | have b2 : BoxAt w2 w1.heap.size := BoxAt.below (boxAt_new w1) hB2 | have b2 : BoxAt w2 W0.heap.size := BoxAt.below b1 hB2 | skip); clear hB2; (try obtain ⟨c2, d2, e2⟩ := id b2))
        | (go_at_call 129; refine (HSp.out _ ?_).mono ?_; (repeat (first | exact hJ0 | refine Below.drew ?_ | refine bel_al ?_)); rintro r w3 ⟨rfl, hB3⟩; have hJ1 : Below W0.heap.size W0 w3 := (by refine chain ?_ hB3; repeat (first | exact hJ0 | refine Below.drew ?_ | refine bel_al ?_)); have q7 := cell_kept hJ1 _ _ k0; have q8 := cell_kept hJ1 _ _ k3; have q9 := cell_kept hJ1 _ _ h4; have z3 := hJ1.size; clear hJ0; have hJ0 := hJ1; clear hJ1; (first | have b3 : BoxAt w3 w1.heap.size := BoxAt.below (boxAt_new w1) hB3 | have b3 : BoxAt w3 w2.heap.size := BoxAt.below (boxAt_new w2) hB3 | have b3 : BoxAt w3 W0.heap.size := BoxAt.below b1 hB3 | have b3 : BoxAt w3 W0.heap.size := BoxAt.below b2 hB3 | have b3 : BoxAt w3 w1.heap.size := BoxAt.below b2 hB3 | have b3 : BoxAt w3 w2.heap.size := BoxAt.below b1 hB3 | skip); clear hB3; (try obtain ⟨c3, d3, e3⟩ := id b3)))
    all_goals
      go_wp2_with fail
      go_meet
      case rel =>
        first
          | exact ⟨_, rfl, hJ0.setCell (p := ⟨W0.heap.size, 0, none⟩) (Nat.le_refl _) _, box_set b3⟩
          | exact ⟨_, rfl, hJ0.setCell (p := ⟨w1.heap.size, 0, none⟩) z1 _, box_set b3⟩
          | exact ⟨_, rfl, hJ0.setCell (p := ⟨w2.heap.size, 0, none⟩) z2 _, box_set b3⟩
          | exact ⟨_, rfl, (bel_al hJ0).setCell (p := ⟨w3.heap.size, 0, none⟩) z3 _, box_set (boxAt_new w3)⟩
          | exact ⟨_, rfl, bel_al hJ0, by simp⟩
  case rest =>
    obtain ⟨F, rfl, HC⟩ := hcut
    have hBc := HC.out.1
    have t1 := cell_kept hBc _ _ k1
    have t2 := cell_kept hBc _ _ k2
    have hspc := hsp.below hBc
    obtain ⟨s0, s1, s2, s3, s4⟩ := id hspc
    have HT : Hid (TgAt wc b n s L w.heap.size (w.heap.size + 1 + 1) F c X) := (⟨HG.out.below hBc, HXY.out.2.2.1, HXY.out.2.2.2, cell_kept hBc _ _ k0, cell_kept hBc _ _ k3, HC.out.2⟩ : TgAt _ _ _ _ _ _ _ _ _ _)
    have HE : Hid (Calls Tryz.prog 64 _ wc _) := ends_targets HT.out x y HXY.out.1 HXY.out.2.1
    have HB : Hid _ := chain HJ.out hBc
    have HSc : Hid _ := hspc
    clear hBc k0 k1 k2 k3 h4 hspc hsp hfd HW HSp HOn
    go_wp2_with fail
    refine (Calls.mono HE.out ?_)
    rintro e w4 ⟨rfl, hB4⟩
    have hsp4 := SpanAt.below HSc.out hB4
    obtain ⟨v0, v1, v2, v3, v4⟩ := id hsp4
    have HB4 : Hid _ := chain HB.out hB4
    have HS4 : Hid _ := hsp4
    clear hB4 hsp4 s0 s1 s2 s3 s4 t1 t2
    go_wp2
    refine bodyPost_ret (v := .agg #[.int .i64 ((X + cnt (eqf (labs L) c) x : Nat) : Int), .int .i64 ((X + cnt (eqf (labs L) c) y : Nat) : Int)]) (by simp [results, Tryz.results72, go_sem, *]) rfl ?_
    exact ⟨rfl, (HB4.out.setCell (p := ⟨w.heap.size + 1 + 1 + 1, 0, none⟩) (by simp only; omega) _).setCell (p := ⟨w.heap.size + 1 + 1 + 1, 1, none⟩) (by simp only; omega) _⟩
end Go.Proofs.YtphjbbbnbmafnaaGreatDoor.G

namespace Go.Proofs.YtphjbbbnbmafnaaGreatDoor.G
open Go.RowKit

attribute [local go_sem ↓] Go.wp_at_zero Go.wp_at_succ
set_option maxHeartbeats 1000000 in
theorem splen_any (p q : Nat) (hpq : p ≤ q) (hq : q ≤ 1000000) (w : World) : Calls Tryz.prog 73 #[.agg #[.int .i64 (p : Int), .int .i64 (q : Int)]] w fun e w' => e = .returned (.int .i64 ((q - p : Nat) : Int)) ∧ Below w.heap.size w w' := by
  go_enter Tryz.func73, Tryz.ntmps73
  go_wp2
  go_ret
  exact ⟨by go_num, below1 _ _⟩
theorem two_le (L : List E3) (f g : E3 → Bool) (h : ∀ e ∈ L, ¬ (f e = true ∧ g e = true)) : (L.filter f).length + (L.filter g).length ≤ L.length := by
  induction L with
  | nil => simp
  | cons a L ih =>
    have h1 := ih fun e he => h e (by simp [he])
    have h2 := h a (by simp)
    simp only [List.filter_cons, List.length_cons]
    cases hf : f a <;> cases hg : g a <;> simp_all <;> omega
theorem lab_room (L : List E3) (h0 : Lab0 L) (c i : Nat) (hi : i ≤ L.length) : bel (labs L) 0 L.length c + cnt (eqf (labs L) c) i ≤ L.length := by
  have hll : (labs L).length = L.length := by simp [labs]
  have h1 := bel_labs L h0 c
  rw [hll] at h1
  rw [h1, cnt_labs L h0 c i hi]
  have h2 : ((L.take i).filter (fun e => decide (e.2.1 = (c : Int)))).length ≤ (L.filter (fun e => decide (e.2.1 = (c : Int)))).length := (List.Sublist.filter _ (List.take_sublist i L)).length_le
  have h3 := two_le L (fun e => decide (e.2.1 < (c : Int))) (fun e => decide (e.2.1 = (c : Int))) (fun e _ => by simp only [decide_eq_true_eq]; omega)
  omega
theorem three_spans (w : World) (a b c d e f : Value) (t : TypeId) : (((w.alloc (.cells #[a, b] t)).alloc (.cells #[c, d] t)).alloc (.cells #[e, f] t)).cell? ⟨w.heap.size, 0, none⟩ = some a ∧ (((w.alloc (.cells #[a, b] t)).alloc (.cells #[c, d] t)).alloc (.cells #[e, f] t)).cell? ⟨w.heap.size, 1, none⟩ = some b ∧ (((w.alloc (.cells #[a, b] t)).alloc (.cells #[c, d] t)).alloc (.cells #[e, f] t)).cell? ⟨w.heap.size + 1, 0, none⟩ = some c ∧ (((w.alloc (.cells #[a, b] t)).alloc (.cells #[c, d] t)).alloc (.cells #[e, f] t)).cell? ⟨w.heap.size + 1, 1, none⟩ = some d ∧ (((w.alloc (.cells #[a, b] t)).alloc (.cells #[c, d] t)).alloc (.cells #[e, f] t)).cell? ⟨w.heap.size + 1 + 1, 0, none⟩ = some e ∧ (((w.alloc (.cells #[a, b] t)).alloc (.cells #[c, d] t)).alloc (.cells #[e, f] t)).cell? ⟨w.heap.size + 1 + 1, 1, none⟩ = some f := by
  obtain ⟨k0, k1, k2, k3, _, _⟩ := two_spans w a b c d t
  have hb := below1 ((w.alloc (.cells #[a, b] t)).alloc (.cells #[c, d] t)) (.cells #[e, f] t)
  have h := box2 ((w.alloc (.cells #[a, b] t)).alloc (.cells #[c, d] t)) e f t
  rw [World.size_alloc, World.size_alloc] at h
  exact ⟨cell_kept hb _ _ k0, cell_kept hb _ _ k1, cell_kept hb _ _ k2, cell_kept hb _ _ k3, h.1, h.2⟩
set_option maxHeartbeats 8000000 in
set_option maxRecDepth 100000 in
theorem gcount_any {w : World} {b n s : Nat} {L : List E3} (h : GraphAt w b n s L) (f1 f2 l1 l2 t1 t2 : Nat) (hf : f1 ≤ f2 ∧ f2 ≤ n) (hl : l1 ≤ l2 ∧ l2 ≤ s) (ht : t1 ≤ t2 ∧ t2 ≤ n) :
    Calls Tryz.prog 40 #[.pointer (some ⟨b, 0, none⟩), .agg #[.int .i64 (f1 : Int), .int .i64 (f2 : Int)], .agg #[.int .i64 (l1 : Int), .int .i64 (l2 : Int)], .agg #[.int .i64 (t1 : Int), .int .i64 (t2 : Int)]] w fun e w' => e = .returned (.int .i64 ((L.filter (inB f1 f2 l1 l2 t1 t2)).length : Int)) ∧ Below w.heap.size w w' := by
  have hbd := h.bd
  obtain ⟨W0, hW0⟩ : ∃ W0, W0 = ((w.alloc (.cells #[.int .i64 (f1 : Int), .int .i64 (f2 : Int)] 40)).alloc (.cells #[.int .i64 (l1 : Int), .int .i64 (l2 : Int)] 40)).alloc (.cells #[.int .i64 (t1 : Int), .int .i64 (t2 : Int)] 40) := ⟨_, rfl⟩
  have hJ : Below w.heap.size w W0 := by rw [hW0]; exact bel_al (bel_al (below1 _ _))
  obtain ⟨k0, k1, k2, k3, k4, k5⟩ := three_spans w (.int .i64 (f1 : Int)) (.int .i64 (f2 : Int)) (.int .i64 (l1 : Int)) (.int .i64 (l2 : Int)) (.int .i64 (t1 : Int)) (.int .i64 (t2 : Int)) 40
  rw [← hW0] at k0 k1 k2 k3 k4 k5
  have HE : Hid (Calls Tryz.prog 64 _ W0 _) := ends_ahead (h.below hJ) f1 f2
  obtain ⟨R, bt, gt, c5w, h16, hperm, hs2⟩ := h.tgt
  have hRl : (tos R).length = L.length := by unfold tos; rw [List.length_map]; exact hperm.length_eq
  have hx1 := Gm.ah_le L f1
  have hy1 := Gm.ah_le L f2
  have hLl : (labs L).length = L.length := by unfold labs; rw [List.length_map]
  have HCL : Hid (∀ c, bel (tos R) (bel (labs L) 0 L.length c + cnt (eqf (labs L) c) (Gm.ah L f1)) (bel (labs L) 0 L.length c + cnt (eqf (labs L) c) (Gm.ah L f2)) t2
      = bel (tos R) (bel (labs L) 0 L.length c + cnt (eqf (labs L) c) (Gm.ah L f1)) (bel (labs L) 0 L.length c + cnt (eqf (labs L) c) (Gm.ah L f2)) t1 + (L.filter (inB f1 f2 c (c + 1) t1 t2)).length) := (fun c => by
    have e := count_label h.st hperm hs2 h.lab0 f1 f2 c t1 t2 hf.1 ht.1
    rw [hLl] at e
    exact e : ∀ c, _)
  have hmono := Gm.ah_mono L hf.1
  generalize Gm.ah L f1 = X at HE hx1 HCL hmono
  generalize Gm.ah L f2 = Y at HE hy1 HCL hmono
  have HRm : Hid (∀ c i, i ≤ L.length → bel (labs L) 0 L.length c + cnt (eqf (labs L) c) i ≤ L.length) := (lab_room L h.lab0 : ∀ c i, _)
  have HG : Hid _ := h.below hJ
  have H16 : Hid _ := h16.below hJ
  have HJ : Hid _ := hJ
  have HRl : Hid _ := hRl
  have c5 := cell_kept hJ _ _ c5w
  have hT2 : t2 ≤ 10000 := by omega
  clear h h16 hperm hs2 hJ hLl hRl c5w
  go_enter Tryz.func40, Tryz.ntmps40
  go_wp2_with fail
  rw [← hW0]
  have HW0 : Hid _ := hW0
  clear hW0
  refine (Calls.mono HE.out ?_)
  rintro e w1 ⟨rfl, hB1⟩
  obtain ⟨W2, hW2⟩ : ∃ W2, W2 = w1.alloc (.cells #[.int .i64 (X : Int), .int .i64 (Y : Int)] 40) := ⟨_, rfl⟩
  have hB2 : Below W0.heap.size W0 W2 := by rw [hW2]; exact bel_al hB1
  have hbx := box2 w1 (.int .i64 (X : Int)) (.int .i64 (Y : Int)) 40
  rw [← hW2] at hbx
  obtain ⟨x0, x1⟩ := hbx
  have y2 := cell_kept hB2 _ _ k2
  have y3 := cell_kept hB2 _ _ k3
  have y4 := cell_kept hB2 _ _ k4
  have y5 := cell_kept hB2 _ _ k5
  have yc := cell_kept hB2 _ _ c5
  have HB2 : Hid _ := hB2
  clear k0 k1 k2 k3 k4 k5 c5 hB1 hB2
  have v0 := hW2 ▸ y2
  go_wp2
  rw [← hW2]
  have HW2 : Hid _ := hW2
  clear hW2 v0
  go_loopw [9, 11] (fun sc sl wr => ∃ c : Nat, l1 ≤ c ∧ c ≤ l2 ∧ sc = .int .i64 ((L.filter (inB f1 f2 l1 c t1 t2)).length : Int) ∧ sl = .int .i64 (c : Int) ∧ Hid (Below W2.heap.size W2 wr)) (fun _ sl _ => l2 - (intOf sl).toNat)
  case atStart => exact ⟨l1, Nat.le_refl _, hl.1, by rw [count_none]; rfl, rfl, Below.refl _ _⟩
  case round =>
    obtain ⟨c, hc1, hc2, rfl, rfl, HI⟩ := hrel
    have hN : (L.filter (inB f1 f2 l1 c t1 t2)).length ≤ 20000 := Nat.le_trans (List.length_filter_le _ _) hbd.2.2.2.2
    have z3 := cell_kept HI.out _ _ y3
    by_cases hlt : c < l2
    · have hcI : (c : Int) < (l2 : Int) := by omega
      have x0r := cell_kept HI.out _ _ x0
      have x1r := cell_kept HI.out _ _ x1
      have hu8 : IntKind.u8.wrap (c : Int) = (c : Int) := by
        have : c < 256 := by omega
        rw [IntKind.wrap_u8]
        omega
      have HT : Hid (Calls Tryz.prog 72 _ wr _) := targets_any ((HG.out.below HB2.out).below HI.out) X Y c hx1 hy1 (by omega)
      have HSt : Hid ((L.filter (inB f1 f2 l1 (c + 1 : Nat) t1 t2)).length = (L.filter (inB f1 f2 l1 c t1 t2)).length + (L.filter (inB f1 f2 c (c + 1) t1 t2)).length) := (count_step L f1 f2 t1 t2 l1 c hc1 : _ = _)
      have hCL := HCL.out c
      have hP1 := HRm.out c X hx1
      have hP2 := HRm.out c Y hy1
      have hPQ : bel (labs L) 0 L.length c + cnt (eqf (labs L) c) X ≤ bel (labs L) 0 L.length c + cnt (eqf (labs L) c) Y := Nat.add_le_add_left (cnt_mono _ hmono) _
      generalize bel (labs L) 0 L.length c + cnt (eqf (labs L) c) X = P at HT hCL hP1 hPQ
      generalize bel (labs L) 0 L.length c + cnt (eqf (labs L) c) Y = Q at HT hCL hP2 hPQ
      have hbl := bel_le (tos R) P Q t2
      rw [HRl.out] at hbl
      have HSp : Hid (∀ W, SeqAt 16 W bt gt (tos R) → Calls Tryz.prog 66 #[S16.belowV bt, .agg #[.int .i64 (P : Int), .int .i64 (Q : Int)], .agg #[.int .i64 (t1 : Int), .int .i64 (t2 : Int)]] W _) := fun W h => S16.spansort_any h P Q hPQ (by rw [HRl.out]; exact hP2) t1 t2 (by omega) (by omega)
      generalize bel (tos R) P Q t1 = A at HSp hCL
      generalize bel (tos R) P Q t2 = B at HSp hCL hbl
      have HLn : Hid (∀ W, Calls Tryz.prog 73 #[.agg #[.int .i64 (A : Int), .int .i64 (B : Int)]] W _) := fun W => splen_any A B (by omega) (by omega) W
      obtain ⟨N, hNe⟩ : ∃ N, N = (L.filter (inB f1 f2 l1 c t1 t2)).length := ⟨_, rfl⟩
      rw [← hNe] at hN HSt
      rw [← hNe]
      have HCm : Hid (B - A = (L.filter (inB f1 f2 c (c + 1) t1 t2)).length) := (by omega : _ = _)
      clear hCL hNe
      go_wp2_with fail
      refine (Calls.mono HT.out ?_)
      rintro e w3 ⟨rfl, hB3⟩
      obtain ⟨W4, hW4⟩ : ∃ W4, W4 = w3.alloc (.cells #[.int .i64 (P : Int), .int .i64 (Q : Int)] 40) := ⟨_, rfl⟩
      have hB4 : Below W2.heap.size W2 W4 := by rw [hW4]; exact bel_al (chain HI.out hB3)
      have hbx4 := box2 w3 (.int .i64 (P : Int)) (.int .i64 (Q : Int)) 40
      rw [← hW4] at hbx4
      obtain ⟨u0, u1⟩ := hbx4
      have u4 := cell_kept hB4 _ _ y4
      have u5 := cell_kept hB4 _ _ y5
      have uc := cell_kept hB4 _ _ yc
      have HB4 : Hid _ := hB4
      clear hB3 hB4 HT x0r x1r z3 hu8
      have HS4 : Hid _ := (H16.out.below HB2.out).below HB4.out
      go_wp2_with fail
      rw [← hW4]
      have HW4 : Hid _ := hW4
      clear hW4
      go_region_held3 (fun w' => w'.cell? ⟨b, 5, none⟩ = some (.pointer (some ⟨bt, 0, none⟩)) ∧ w'.cell? ⟨w3.heap.size, 0, none⟩ = some (.int .i64 (P : Int)) ∧ w'.cell? ⟨w3.heap.size, 1, none⟩ = some (.int .i64 (Q : Int)) ∧ w'.cell? ⟨w.heap.size + 1 + 1, 0, none⟩ = some (.int .i64 (t1 : Int)) ∧ w'.cell? ⟨w.heap.size + 1 + 1, 1, none⟩ = some (.int .i64 (t2 : Int)))
        (first | (refine ⟨?_, ?_, ?_, ?_, ?_⟩ <;> assumption) | (go_keep; done))
        (first
          | (go_at_call 66; refine (HSp.out _ ?_).mono ?_; exact (HS4.out.kept (fun _ _ h => h)); rintro r w5 ⟨rfl, hB5d⟩; have hB5 := ((Below.refl W4.heap.size W4).drew).trans hB5d; have q1 := cell_kept hB5 _ _ uc; have q2 := cell_kept hB5 _ _ u0; have q3 := cell_kept hB5 _ _ u1; have q4 := cell_kept hB5 _ _ u4; have q5 := cell_kept hB5 _ _ u5)
          | (go_at_call 73; refine (HLn.out _).mono ?_; rintro r w6 ⟨rfl, hB6⟩; have q6 := cell_kept hB6 _ _ q1; have q7 := cell_kept hB6 _ _ q2; have q8 := cell_kept hB6 _ _ q3; have q9 := cell_kept hB6 _ _ q4; have q0 := cell_kept hB6 _ _ q5))
      have HB6 : Hid _ := chain (chain HB4.out hB5) hB6
      have hBA : B - A ≤ 20000 := by omega
      generalize B - A = D at hBA HCm
      clear hB5 hB6 hB5d q1 q2 q3 q4 q5 q6 q7 q8 q9 q0 u0 u1 u4 u5 uc HSp HLn
      go_wp2
      go_roundw
      case rel => exact ⟨c + 1, by omega, by omega, by rw [HSt.out, ← HCm.out, show IntKind.i64.wrap ((N : Int) + (D : Int)) = ((N + D : Nat) : Int) from by rw [IntKind.wrap_i64]; omega], by go_num, HB6.out⟩
      case measure => simp [intOf]; omega
    · obtain rfl : c = l2 := by omega
      have HB : Hid _ := chain (chain HJ.out HB2.out) HI.out
      clear HI
      go_wp2
      go_ret
      exact ⟨rfl, HB.out⟩
end Go.Proofs.YtphjbbbnbmafnaaGreatDoor.G

namespace Go.Proofs.YtphjbbbnbmafnaaGreatDoor.G
open Go.RowKit

attribute [local go_sem ↓] Go.wp_at_zero Go.wp_at_succ
set_option maxHeartbeats 8000000 in
set_option maxRecDepth 100000 in
theorem gcountq_yes {w : World} {b n s : Nat} {L : List E3} (h : GraphAt w b n s L) (f1 f2 l1 l2 t1 t2 : Nat) (hf : f1 ≤ f2 ∧ f2 ≤ n) (hl : l1 ≤ l2 ∧ l2 ≤ s) (ht : t1 ≤ t2 ∧ t2 ≤ n) :
    Calls Tryz.prog 22 #[.pointer (some ⟨b, 0, none⟩), .agg #[.int .i64 (f1 : Int), .int .i64 (f2 : Int)], .agg #[.int .i64 (l1 : Int), .int .i64 (l2 : Int)], .agg #[.int .i64 (t1 : Int), .int .i64 (t2 : Int)]] w fun e w' => e = .returned (.tuple #[.int .i64 ((L.filter (inB f1 f2 l1 l2 t1 t2)).length : Int), .int .i64 0]) ∧ Below w.heap.size w w' := by
  obtain ⟨W0, hW0⟩ : ∃ W0, W0 = ((w.alloc (.cells #[.int .i64 (f1 : Int), .int .i64 (f2 : Int)] 40)).alloc (.cells #[.int .i64 (l1 : Int), .int .i64 (l2 : Int)] 40)).alloc (.cells #[.int .i64 (t1 : Int), .int .i64 (t2 : Int)] 40) := ⟨_, rfl⟩
  have hJ : Below w.heap.size w W0 := by rw [hW0]; exact bel_al (bel_al (below1 _ _))
  obtain ⟨k0, k1, k2, k3, k4, k5⟩ := three_spans w (.int .i64 (f1 : Int)) (.int .i64 (f2 : Int)) (.int .i64 (l1 : Int)) (.int .i64 (l2 : Int)) (.int .i64 (t1 : Int)) (.int .i64 (t2 : Int)) 40
  rw [← hW0] at k0 k1 k2 k3 k4 k5
  have hg := h.below hJ
  have kn := hg.sz0
  have ks := hg.sz1
  have HG : Hid _ := hg
  have HJ : Hid _ := hJ
  have HC : Hid (∀ W, GraphAt W b n s L → Calls Tryz.prog 40 #[.pointer (some ⟨b, 0, none⟩), .agg #[.int .i64 (f1 : Int), .int .i64 (f2 : Int)], .agg #[.int .i64 (l1 : Int), .int .i64 (l2 : Int)], .agg #[.int .i64 (t1 : Int), .int .i64 (t2 : Int)]] W _) := fun W h => gcount_any h f1 f2 l1 l2 t1 t2 hf hl ht
  have HS1 : Hid (∀ W, Calls Tryz.prog 39 _ W _) := fun W => isSpan_any (f1 : Int) (f2 : Int) (n : Int) W
  rw [decide_eq_true (by omega : 0 ≤ (f1 : Int) ∧ (f1 : Int) ≤ (f2 : Int) ∧ (f2 : Int) ≤ (n : Int))] at HS1
  have HS2 : Hid (∀ W, Calls Tryz.prog 39 _ W _) := fun W => isSpan_any (l1 : Int) (l2 : Int) (s : Int) W
  rw [decide_eq_true (by omega : 0 ≤ (l1 : Int) ∧ (l1 : Int) ≤ (l2 : Int) ∧ (l2 : Int) ≤ (s : Int))] at HS2
  have HS3 : Hid (∀ W, Calls Tryz.prog 39 _ W _) := fun W => isSpan_any (t1 : Int) (t2 : Int) (n : Int) W
  rw [decide_eq_true (by omega : 0 ≤ (t1 : Int) ∧ (t1 : Int) ≤ (t2 : Int) ∧ (t2 : Int) ≤ (n : Int))] at HS3
  generalize (L.filter (inB f1 f2 l1 l2 t1 t2)).length = N at HC ⊢
  clear h hg hJ hf hl ht
  go_enter Tryz.func22, Tryz.ntmps22
  go_wp2_with fail
  rw [← hW0]
  have HW0 : Hid _ := hW0
  clear hW0
  go_region_held3 (fun w' => w'.cell? ⟨w.heap.size, 0, none⟩ = some (.int .i64 (f1 : Int)) ∧ w'.cell? ⟨w.heap.size, 1, none⟩ = some (.int .i64 (f2 : Int)) ∧ w'.cell? ⟨w.heap.size + 1, 0, none⟩ = some (.int .i64 (l1 : Int)) ∧ w'.cell? ⟨w.heap.size + 1, 1, none⟩ = some (.int .i64 (l2 : Int)) ∧ w'.cell? ⟨w.heap.size + 1 + 1, 0, none⟩ = some (.int .i64 (t1 : Int)) ∧ w'.cell? ⟨w.heap.size + 1 + 1, 1, none⟩ = some (.int .i64 (t2 : Int)) ∧ w'.cell? ⟨b, 0, none⟩ = some (.int .i64 (n : Int)) ∧ w'.cell? ⟨b, 1, none⟩ = some (.int .i64 (s : Int)))
    (first | (refine ⟨?_, ?_, ?_, ?_, ?_, ?_, ?_, ?_⟩ <;> assumption) | (go_keep; done))
    (first
      | (go_at_call_of 39 (Value.agg #[Value.int IntKind.i64 (f1 : Int), Value.int IntKind.i64 (f2 : Int)]); refine (HS1.out _).mono ?_; rintro r w1 ⟨rfl, hB1d⟩; have hB1 := ((Below.refl W0.heap.size W0).drew).trans hB1d; clear hB1d; have q0 := cell_kept hB1 _ _ k0; have q1 := cell_kept hB1 _ _ k1; have q2 := cell_kept hB1 _ _ k2; have q3 := cell_kept hB1 _ _ k3; have q4 := cell_kept hB1 _ _ k4; have q5 := cell_kept hB1 _ _ k5; have q6 := cell_kept hB1 _ _ kn; have q7 := cell_kept hB1 _ _ ks)
      | (go_at_call_of 39 (Value.agg #[Value.int IntKind.i64 (l1 : Int), Value.int IntKind.i64 (l2 : Int)]); refine (HS2.out _).mono ?_; rintro r w2 ⟨rfl, hB2d⟩; have hB2 := chain hB1 hB2d; clear hB2d; have r0 := cell_kept hB2 _ _ k0; have r1 := cell_kept hB2 _ _ k1; have r2 := cell_kept hB2 _ _ k2; have r3 := cell_kept hB2 _ _ k3; have r4 := cell_kept hB2 _ _ k4; have r5 := cell_kept hB2 _ _ k5; have r6 := cell_kept hB2 _ _ kn; have r7 := cell_kept hB2 _ _ ks)
      | (go_at_call_of 39 (Value.agg #[Value.int IntKind.i64 (t1 : Int), Value.int IntKind.i64 (t2 : Int)]); refine (HS3.out _).mono ?_; rintro r w3 ⟨rfl, hB3d⟩; have hB3 := chain hB2 hB3d; clear hB3d; have s0 := cell_kept hB3 _ _ k0; have s1 := cell_kept hB3 _ _ k1; have s2 := cell_kept hB3 _ _ k2; have s3 := cell_kept hB3 _ _ k3; have s4 := cell_kept hB3 _ _ k4; have s5 := cell_kept hB3 _ _ k5; have s6 := cell_kept hB3 _ _ kn; have s7 := cell_kept hB3 _ _ ks))
  have HB3 : Hid _ := hB3
  clear hB1 hB2 hB3 q0 q1 q2 q3 q4 q5 q6 q7 r0 r1 r2 r3 r4 r5 r6 r7 k0 k1 k2 k3 k4 k5 kn ks HS1 HS2 HS3
  go_wp2_with fail
  refine (Calls.mono (HC.out w3 (HG.out.below HB3.out)) ?_)
  rintro e w4 ⟨rfl, hB4⟩
  have HB4 : Hid _ := chain HJ.out (chain HB3.out hB4)
  clear hB4 HC
  go_wp2
  go_ret2
  exact ⟨rfl, HB4.out⟩
/-- just one edge lies within the spans of one number each -/
theorem one_len (L : List E3) (hst : Gm.Strict L) (e : E3) : (L.filter (inB e.1 (e.1 + 1) e.2.1 (e.2.1 + 1) e.2.2 (e.2.2 + 1))).length = if e ∈ L then 1 else 0 := by
  have hp : ∀ x : E3, inB e.1 (e.1 + 1) e.2.1 (e.2.1 + 1) e.2.2 (e.2.2 + 1) x = decide (x = e) := fun x => by
    obtain ⟨e1, e2, e3⟩ := e
    obtain ⟨x1, x2, x3⟩ := x
    unfold inB
    rw [Bool.eq_iff_iff]
    simp only [Bool.and_eq_true, decide_eq_true_eq, Prod.mk.injEq]
    omega
  rw [List.filter_congr (fun x _ => hp x)]
  have hnd : L.Nodup := List.Pairwise.imp (fun {a b} (h : Gm.ltE a b = true) => fun he => by
    subst he
    rw [Gm.ltE_iff] at h
    omega) hst
  clear hst hp
  induction L with
  | nil => rfl
  | cons a L ih =>
    rw [List.nodup_cons] at hnd
    have h1 := ih hnd.2
    simp only [List.filter_cons, List.mem_cons]
    by_cases ha : a = e
    · subst ha
      rw [if_neg hnd.1] at h1
      simp [h1]
    · have ha' : ¬ e = a := fun h => ha h.symm
      simp only [decide_eq_true_eq, if_neg ha, ha', false_or]
      exact h1
set_option maxHeartbeats 8000000 in
set_option maxRecDepth 100000 in
theorem ghas_any {w : World} {b n s : Nat} {L : List E3} (h : GraphAt w b n s L) (f l t : Nat) (hf : f < n) (hl : l < s) (ht : t < n) :
    Calls Tryz.prog 20 #[.pointer (some ⟨b, 0, none⟩), .agg #[.int .i64 (f : Int), .int .i64 (l : Int), .int .i64 (t : Int)]] w fun r w' => r = .returned (.tuple #[.bool (decide (((f : Int), (l : Int), (t : Int)) ∈ L)), .int .i64 0]) ∧ Below w.heap.size w w' := by
  have hbd := h.bd
  obtain ⟨W0, hW0⟩ : ∃ W0, W0 = w.alloc (.cells #[.int .i64 (f : Int), .int .i64 (l : Int), .int .i64 (t : Int)] 38) := ⟨_, rfl⟩
  have hJ : Below w.heap.size w W0 := by rw [hW0]; exact below1 _ _
  have k0 : W0.cell? ⟨w.heap.size, 0, none⟩ = some (.int .i64 (f : Int)) := by rw [hW0]; exact cell_new _ _ _ 0
  have k1 : W0.cell? ⟨w.heap.size, 1, none⟩ = some (.int .i64 (l : Int)) := by rw [hW0]; exact cell_new _ _ _ 1
  have k2 : W0.cell? ⟨w.heap.size, 2, none⟩ = some (.int .i64 (t : Int)) := by rw [hW0]; exact cell_new _ _ _ 2
  have HO : Hid (∀ (u : Nat), u ≤ 1000000 → ∀ W, Calls Tryz.prog 35 #[.int .i64 (u : Int)] W _) := fun u hu W => only2_any u hu W
  have h1 : f ≤ 1000000 := by omega
  have h2 : l ≤ 1000000 := by omega
  have h3 : t ≤ 1000000 := by omega
  have hlen := one_len L h.st ((f : Int), (l : Int), (t : Int))
  have HC : Hid (∀ W, Below W0.heap.size W0 W → Calls Tryz.prog 22 #[.pointer (some ⟨b, 0, none⟩), .agg #[.int .i64 (f : Int), .int .i64 ((f + 1 : Nat) : Int)], .agg #[.int .i64 (l : Int), .int .i64 ((l + 1 : Nat) : Int)], .agg #[.int .i64 (t : Int), .int .i64 ((t + 1 : Nat) : Int)]] W fun e w' => e = .returned (.tuple #[.int .i64 ((if ((f : Int), (l : Int), (t : Int)) ∈ L then 1 else 0 : Nat) : Int), .int .i64 0]) ∧ Below W.heap.size W w') := (fun W hB => by
    have e := gcountq_yes ((h.below hJ).below hB) f (f + 1) l (l + 1) t (t + 1) ⟨by omega, by omega⟩ ⟨by omega, by omega⟩ ⟨by omega, by omega⟩
    rw [show (L.filter (inB (f : Int) ((f + 1 : Nat) : Int) (l : Int) ((l + 1 : Nat) : Int) (t : Int) ((t + 1 : Nat) : Int))).length = if ((f : Int), (l : Int), (t : Int)) ∈ L then 1 else 0 from hlen] at e
    exact e : ∀ W, _)
  have HJ : Hid _ := hJ
  obtain ⟨M, hM⟩ : ∃ M : Nat, M = if ((f : Int), (l : Int), (t : Int)) ∈ L then 1 else 0 := ⟨_, rfl⟩
  rw [← hM] at HC
  have HM : Hid _ := hM
  have hM1 : M ≤ 1 := by rw [hM]; split <;> omega
  clear h hJ hlen hf hl ht hbd hM
  go_enter Tryz.func20, Tryz.ntmps20
  go_wp2_with fail
  rw [← hW0]
  have hJ0 : Below W0.heap.size W0 W0 := Below.refl _ _
  have HW0 : Hid _ := hW0
  clear hW0
  go_region_held3 (fun w' => w'.cell? ⟨w.heap.size, 0, none⟩ = some (.int .i64 (f : Int)) ∧ w'.cell? ⟨w.heap.size, 1, none⟩ = some (.int .i64 (l : Int)) ∧ w'.cell? ⟨w.heap.size, 2, none⟩ = some (.int .i64 (t : Int)))
    (first | (refine ⟨?_, ?_, ?_⟩ <;> assumption) | (go_keep; done))
    (first
      | (go_at_call 35; refine (HO.out _ (by assumption) _).mono ?_; rintro r w1 ⟨rfl, hB1⟩; have hJ1 : Below W0.heap.size W0 w1 := (by refine chain ?_ hB1; first | exact hJ0 | exact hJ0.drew); clear hB1 hJ0; have hJ0 := hJ1; clear hJ1; have q0 := cell_kept hJ0 _ _ k0; have q1 := cell_kept hJ0 _ _ k1; have q2 := cell_kept hJ0 _ _ k2)
      | (go_at_call 22; refine (HC.out _ ?_).mono ?_; exact hJ0; rintro r w4 ⟨rfl, hB4⟩; have hJ1 := chain hJ0 hB4; clear hB4 hJ0; have hJ0 := hJ1; clear hJ1; have r0 := cell_kept hJ0 _ _ k0; have r1 := cell_kept hJ0 _ _ k1; have r2 := cell_kept hJ0 _ _ k2))
  all_goals
    have HB4 : Hid _ := chain HJ.out hJ0
    clear hJ0 HC HO
    by_cases hm : ((f : Int), (l : Int), (t : Int)) ∈ L
    · obtain rfl : M = 1 := by have := HM.out; rwa [if_pos hm] at this
      have Hm : Hid _ := decide_eq_true hm
      clear hm HM
      go_wp2
      go_ret2
      exact ⟨by rw [Hm.out]; rfl, HB4.out⟩
    · obtain rfl : M = 0 := by have := HM.out; rwa [if_neg hm] at this
      have Hm : Hid _ := decide_eq_false hm
      clear hm HM
      go_wp2
      go_ret2
      exact ⟨by rw [Hm.out]; rfl, HB4.out⟩
theorem ghas_mem {w : World} {b n s : Nat} {L : List E3} (h : GraphAt w b n s L) (e : E3) (he : e ∈ L) :
    Calls Tryz.prog 20 #[.pointer (some ⟨b, 0, none⟩), .agg #[.int .i64 e.1, .int .i64 e.2.1, .int .i64 e.2.2]] w fun r w' => r = .returned (.tuple #[.bool true, .int .i64 0]) ∧ Below w.heap.size w w' := by
  obtain ⟨f, l, t⟩ := e
  have hk := h.ok.2 _ he
  unfold Gm.edgeOk at hk
  simp only at hk ⊢
  obtain ⟨f, rfl⟩ : ∃ m : Nat, f = (m : Int) := ⟨f.toNat, by omega⟩
  obtain ⟨l, rfl⟩ : ∃ m : Nat, l = (m : Int) := ⟨l.toNat, by omega⟩
  obtain ⟨t, rfl⟩ : ∃ m : Nat, t = (m : Int) := ⟨t.toNat, by omega⟩
  have := ghas_any h f l t (by omega) (by omega) (by omega)
  rw [decide_eq_true he] at this
  exact this
end Go.Proofs.YtphjbbbnbmafnaaGreatDoor.G

namespace Go.Proofs.YtphjbbbnbmafnaaGreatDoor.G
open Go.RowKit

attribute [local go_sem ↓] Go.wp_at_zero Go.wp_at_succ
/-- a world behind W0 that has nothing but new memory besides; W0 itself, where u is none -/
noncomputable def ext (W0 u : World) : World := by
  classical
  exact if Below W0.heap.size W0 u then u else W0
theorem ext_below (W0 u : World) : Below W0.heap.size W0 (ext W0 u) := by
  unfold ext
  split
  · assumption
  · exact Below.refl _ _
theorem ext_of {W0 u : World} (h : Below W0.heap.size W0 u) : u = ext W0 u := by
  unfold ext
  rw [if_pos h]
theorem ext_cell {W0 : World} {p : Addr} {v : Value} (h : W0.cell? p = some v) (u : World) : (ext W0 u).cell? p = some v := cell_kept (ext_below W0 u) _ _ h
/-- a region that draws its order, reads, and calls what makes new memory alone: one walk in the order of the text -/
theorem wp_region_ext {P : Program} {id : Nat} {Q : Exit → Act → World → Prop} {a : Act} {w : World} {l : List Oper} (hm : P.follows .mixedOrders = true) (hB : Region.lexB .any l.toArray = true)
    (h : wpQuiet P l.toArray (fun w' => ∃ u, w' = ext w u) (fun a' => ∀ w', (∃ u, w' = ext w u) → Q .normal a' w') l a) : (Code.region id l.toArray true).wp P Q a w :=
  wp_region_quiet (C := fun w' => ∃ u, w' = ext w u) hm hB ⟨w.drew, ext_of ((Below.refl _ _).drew)⟩ (by simpa using h)
set_option maxHeartbeats 16000000 in
set_option maxRecDepth 100000 in
theorem gcountq_no {w : World} {b n s : Nat} {L : List E3} (h : GraphAt w b n s L) (f1 f2 l1 l2 t1 t2 : Int) (P Q R : Bool) (hP : decide (0 ≤ f1 ∧ f1 ≤ f2 ∧ f2 ≤ (n : Int)) = P) (hQ : decide (0 ≤ l1 ∧ l1 ≤ l2 ∧ l2 ≤ (s : Int)) = Q) (hR : decide (0 ≤ t1 ∧ t1 ≤ t2 ∧ t2 ≤ (n : Int)) = R) (hn : ¬ (P = true ∧ Q = true ∧ R = true)) :
    Calls Tryz.prog 22 #[.pointer (some ⟨b, 0, none⟩), .agg #[.int .i64 f1, .int .i64 f2], .agg #[.int .i64 l1, .int .i64 l2], .agg #[.int .i64 t1, .int .i64 t2]] w fun e w' => e = .returned (.tuple #[.int .i64 0, .int .i64 1]) ∧ Below w.heap.size w w' := by
  obtain ⟨W0, hW0⟩ : ∃ W0, W0 = ((w.alloc (.cells #[.int .i64 f1, .int .i64 f2] 40)).alloc (.cells #[.int .i64 l1, .int .i64 l2] 40)).alloc (.cells #[.int .i64 t1, .int .i64 t2] 40) := ⟨_, rfl⟩
  have hJ : Below w.heap.size w W0 := by rw [hW0]; exact bel_al (bel_al (below1 _ _))
  obtain ⟨k0, k1, k2, k3, k4, k5⟩ := three_spans w (.int .i64 f1) (.int .i64 f2) (.int .i64 l1) (.int .i64 l2) (.int .i64 t1) (.int .i64 t2) 40
  rw [← hW0] at k0 k1 k2 k3 k4 k5
  have hg := h.below hJ
  have kn := hg.sz0
  have ks := hg.sz1
  have HJ : Hid _ := hJ
  have HS1 : Hid (∀ W, Calls Tryz.prog 39 _ W _) := fun W => isSpan_any f1 f2 (n : Int) W
  have HS2 : Hid (∀ W, Calls Tryz.prog 39 _ W _) := fun W => isSpan_any l1 l2 (s : Int) W
  have HS3 : Hid (∀ W, Calls Tryz.prog 39 _ W _) := fun W => isSpan_any t1 t2 (n : Int) W
  rw [hP] at HS1
  rw [hQ] at HS2
  rw [hR] at HS3
  clear h hg hJ hP hQ hR
  have u0 := fun u => ext_cell k0 u
  have u1 := fun u => ext_cell k1 u
  have u2 := fun u => ext_cell k2 u
  have u3 := fun u => ext_cell k3 u
  have u4 := fun u => ext_cell k4 u
  have u5 := fun u => ext_cell k5 u
  have un := fun u => ext_cell kn u
  have us := fun u => ext_cell ks u
  clear k0 k1 k2 k3 k4 k5 kn ks
  cases P with
  | false =>
    clear HS2 HS3 hn
    go_enter Tryz.func22, Tryz.ntmps22
    go_wp2_with fail
    rw [← hW0]
    have HW0 : Hid _ := hW0
    clear hW0
    refine wp_region_ext (by kernel_rfl) (by kernel_rfl) ?_
    repeat (go_big_quiet_step (first | (go_at_call 39; refine (HS1.out _).mono ?_; rintro r w1 ⟨rfl, hB⟩; exact ⟨rfl, w1, ext_of (chain (ext_below _ _) hB)⟩)))
    refine wpQuiet_nil ?_
    intro wx hw'
    obtain ⟨u, hw''⟩ := hw'
    subst hw''
    have HB : Hid _ := chain HJ.out (ext_below W0 u)
    go_wp2
    go_ret2
    exact ⟨rfl, HB.out⟩
  | true =>
    cases Q with
    | false =>
      clear HS3 hn
      go_enter Tryz.func22, Tryz.ntmps22
      go_wp2_with fail
      rw [← hW0]
      have HW0 : Hid _ := hW0
      clear hW0
      refine wp_region_ext (by kernel_rfl) (by kernel_rfl) ?_
      repeat (go_big_quiet_step (first
        | (go_at_call_of 39 (Value.agg #[Value.int IntKind.i64 f1, Value.int IntKind.i64 f2]); refine (HS1.out _).mono ?_; rintro r w1 ⟨rfl, hB⟩; exact ⟨rfl, w1, ext_of (chain (ext_below _ _) hB)⟩)
        | (go_at_call_of 39 (Value.agg #[Value.int IntKind.i64 l1, Value.int IntKind.i64 l2]); refine (HS2.out _).mono ?_; rintro r w1 ⟨rfl, hB⟩; exact ⟨rfl, w1, ext_of (chain (ext_below _ _) hB)⟩)))
      refine wpQuiet_nil ?_
      intro wx hw'
      obtain ⟨u, hw''⟩ := hw'
      subst hw''
      have HB : Hid _ := chain HJ.out (ext_below W0 u)
      go_wp2
      go_ret2
      exact ⟨rfl, HB.out⟩
    | true =>
      cases R with
      | true => exact absurd ⟨rfl, rfl, rfl⟩ hn
      | false =>
        clear hn
        go_enter Tryz.func22, Tryz.ntmps22
        go_wp2_with fail
        rw [← hW0]
        have HW0 : Hid _ := hW0
        clear hW0
        refine wp_region_ext (by kernel_rfl) (by kernel_rfl) ?_
        repeat (go_big_quiet_step (first
          | (go_at_call_of 39 (Value.agg #[Value.int IntKind.i64 f1, Value.int IntKind.i64 f2]); refine (HS1.out _).mono ?_; rintro r w1 ⟨rfl, hB⟩; exact ⟨rfl, w1, ext_of (chain (ext_below _ _) hB)⟩)
          | (go_at_call_of 39 (Value.agg #[Value.int IntKind.i64 l1, Value.int IntKind.i64 l2]); refine (HS2.out _).mono ?_; rintro r w1 ⟨rfl, hB⟩; exact ⟨rfl, w1, ext_of (chain (ext_below _ _) hB)⟩)
          | (go_at_call_of 39 (Value.agg #[Value.int IntKind.i64 t1, Value.int IntKind.i64 t2]); refine (HS3.out _).mono ?_; rintro r w1 ⟨rfl, hB⟩; exact ⟨rfl, w1, ext_of (chain (ext_below _ _) hB)⟩)))
        refine wpQuiet_nil ?_
        intro wx hw'
        obtain ⟨u, hw''⟩ := hw'
        subst hw''
        have HB : Hid _ := chain HJ.out (ext_below W0 u)
        go_wp2
        go_ret2
        exact ⟨rfl, HB.out⟩
/-- Has, where the edge is not within the size -/
theorem wrap1 (u : Int) (n : Nat) (hn : n ≤ 10000) (h1 : -9223372036854775808 ≤ u) (h2 : u ≤ 9223372036854775807) : decide (0 ≤ u ∧ u ≤ wrap64 (u + 1) ∧ wrap64 (u + 1) ≤ (n : Int)) = decide (0 ≤ u ∧ u < (n : Int)) := by
  rw [Bool.eq_iff_iff, decide_eq_true_eq, decide_eq_true_eq]
  exact only_span u n hn h1 h2
set_option maxHeartbeats 8000000 in
set_option maxRecDepth 100000 in
theorem ghas_no {w : World} {b n s : Nat} {L : List E3} (h : GraphAt w b n s L) (f l t : Int) (hf : -9223372036854775808 ≤ f ∧ f ≤ 9223372036854775807) (hl : -9223372036854775808 ≤ l ∧ l ≤ 9223372036854775807) (ht : -9223372036854775808 ≤ t ∧ t ≤ 9223372036854775807) (hno : ¬ ((0 ≤ f ∧ f < (n : Int)) ∧ (0 ≤ l ∧ l < (s : Int)) ∧ (0 ≤ t ∧ t < (n : Int)))) :
    Calls Tryz.prog 20 #[.pointer (some ⟨b, 0, none⟩), .agg #[.int .i64 f, .int .i64 l, .int .i64 t]] w fun r w' => r = .returned (.tuple #[.bool false, .int .i64 1]) ∧ Below w.heap.size w w' := by
  have hbd := h.bd
  obtain ⟨W0, hW0⟩ : ∃ W0, W0 = w.alloc (.cells #[.int .i64 f, .int .i64 l, .int .i64 t] 38) := ⟨_, rfl⟩
  have hJ : Below w.heap.size w W0 := by rw [hW0]; exact below1 _ _
  have k0 : W0.cell? ⟨w.heap.size, 0, none⟩ = some (.int .i64 f) := by rw [hW0]; exact cell_new _ _ _ 0
  have k1 : W0.cell? ⟨w.heap.size, 1, none⟩ = some (.int .i64 l) := by rw [hW0]; exact cell_new _ _ _ 1
  have k2 : W0.cell? ⟨w.heap.size, 2, none⟩ = some (.int .i64 t) := by rw [hW0]; exact cell_new _ _ _ 2
  have HO1 : Hid (∀ W, Calls Tryz.prog 35 #[.int .i64 f] W _) := fun W => only_any f W
  have HO2 : Hid (∀ W, Calls Tryz.prog 35 #[.int .i64 l] W _) := fun W => only_any l W
  have HO3 : Hid (∀ W, Calls Tryz.prog 35 #[.int .i64 t] W _) := fun W => only_any t W
  have HC : Hid (∀ W, Below W0.heap.size W0 W → Calls Tryz.prog 22 #[.pointer (some ⟨b, 0, none⟩), .agg #[.int .i64 f, .int .i64 (wrap64 (f + 1))], .agg #[.int .i64 l, .int .i64 (wrap64 (l + 1))], .agg #[.int .i64 t, .int .i64 (wrap64 (t + 1))]] W _) := fun W hB => gcountq_no ((h.below hJ).below hB) f (wrap64 (f + 1)) l (wrap64 (l + 1)) t (wrap64 (t + 1)) (decide (0 ≤ f ∧ f < (n : Int))) (decide (0 ≤ l ∧ l < (s : Int))) (decide (0 ≤ t ∧ t < (n : Int))) (wrap1 f n hbd.2.1 hf.1 hf.2) (wrap1 l s (by omega) hl.1 hl.2) (wrap1 t n hbd.2.1 ht.1 ht.2) (by simpa only [decide_eq_true_eq] using hno)
  have HJ : Hid _ := hJ
  have u0 := fun u => ext_cell k0 u
  have u1 := fun u => ext_cell k1 u
  have u2 := fun u => ext_cell k2 u
  generalize wrap64 (f + 1) = f2 at HC HO1
  generalize wrap64 (l + 1) = l2 at HC HO2
  generalize wrap64 (t + 1) = t2 at HC HO3
  clear h hJ hf hl ht hno hbd k0 k1 k2
  go_enter Tryz.func20, Tryz.ntmps20
  go_wp2_with fail
  rw [← hW0]
  have HW0 : Hid _ := hW0
  clear hW0
  refine wp_region_ext (by kernel_rfl) (by kernel_rfl) ?_
  repeat (go_big_quiet_step (first
    | (go_at_call_of 35 (Value.int IntKind.i64 f); refine (HO1.out _).mono ?_; rintro r w1 ⟨rfl, hB⟩; exact ⟨rfl, w1, ext_of (chain (ext_below _ _) hB)⟩)
    | (go_at_call_of 35 (Value.int IntKind.i64 l); refine (HO2.out _).mono ?_; rintro r w1 ⟨rfl, hB⟩; exact ⟨rfl, w1, ext_of (chain (ext_below _ _) hB)⟩)
    | (go_at_call_of 35 (Value.int IntKind.i64 t); refine (HO3.out _).mono ?_; rintro r w1 ⟨rfl, hB⟩; exact ⟨rfl, w1, ext_of (chain (ext_below _ _) hB)⟩)
    | (go_at_call 22; refine (HC.out _ (ext_below _ _)).mono ?_; rintro r w1 ⟨rfl, hB⟩; exact ⟨rfl, w1, ext_of (chain (ext_below _ _) hB)⟩)))
  refine wpQuiet_nil ?_
  intro wx hw'
  obtain ⟨u, hw''⟩ := hw'
  subst hw''
  have HB : Hid _ := chain HJ.out (ext_below W0 u)
  go_wp2
  go_ret2
  exact ⟨rfl, HB.out⟩
end Go.Proofs.YtphjbbbnbmafnaaGreatDoor.G
