/-
  Where the targets of those edges of a span of places lie that have one label (Graph.targetsOf), and how many of them go to a span of nodes (Graph.count): new memory; nothing that was there is written.
-/
import Derived.Test.YtphjbbbnbmafnabGreatDoorPEo
namespace Go.Proofs.YtphjbbbnbmafnabGreatDoor.G
open Go.RowKit

set_option maxHeartbeats 2000000 in
theorem targets1_any {w : World} {b n s : Nat} {L : List E3} (h : GraphAt w b n s L) (B C F : Nat) (c f : Nat) (hc : c < 256) (hf : f ≤ 1000000) (hB : w.cell? ⟨B, 0, none⟩ = some (.pointer (some ⟨b, 0, none⟩))) (hC : w.cell? ⟨C, 0, none⟩ = some (.int .u8 (c : Int))) (hF : w.cell? ⟨F, 0, none⟩ = some (.int .i64 (f : Int))) (p : Nat) (hp : p ≤ L.length) :
    Calls Tryz.prog 139 #[.int .i64 (p : Int), .pointer (some ⟨B, 0, none⟩), .pointer (some ⟨C, 0, none⟩), .pointer (some ⟨F, 0, none⟩)] w fun r w' => r = .returned (.int .i64 ((f + cnt (eqf (labs L) c) p : Nat) : Int)) ∧ Below w.heap.size w w' := by
  obtain ⟨bl, gl, h4, hs⟩ := h.lab
  have hL := h.ok.1.2.2.2.2
  have hll : (labs L).length = L.length := by simp [labs]
  have HS : Hid _ := hs
  have HR : Hid (∀ W, SeqAt 8 W bl gl (labs L) → Calls Tryz.prog 136 #[.pointer (some ⟨bl, 0, none⟩), .int .u8 (c : Int), .int .i64 (p : Int)] W _) := fun W h => S8.rank_yes h c (by omega) p (by rw [hll]; exact hp)
  have hcn := cnt_le (eqf (labs L) c) p
  generalize cnt (eqf (labs L) c) p = k at HR hcn
  clear h hs hll
  go_enter Tryz.func139, Tryz.ntmps139
  go_wp2_with fail
  go_region_held3 (fun w' => w'.cell? ⟨B, 0, none⟩ = some (.pointer (some ⟨b, 0, none⟩)) ∧ w'.cell? ⟨C, 0, none⟩ = some (.int .u8 (c : Int)) ∧ w'.cell? ⟨F, 0, none⟩ = some (.int .i64 (f : Int)) ∧ w'.cell? ⟨b, 4, none⟩ = some (.pointer (some ⟨bl, 0, none⟩))) (go_keep)
    (first
      | (go_at_call 136; refine (HR.out _ ?_).mono ?_; exact (HS.out.kept (fun _ _ h => h)); rintro r w1 ⟨rfl, hB1d⟩; have hB1 := ((Below.refl w.heap.size w).drew).trans hB1d; have q1 := cell_kept hB1 _ _ hB; have q2 := cell_kept hB1 _ _ hC; have q3 := cell_kept hB1 _ _ hF; have q4 := cell_kept hB1 _ _ h4))
  have HB1 : Hid (Below w.heap.size w w1) := hB1
  clear hB1 hB1d
  go_wp2
  go_ret
  exact ⟨by go_num, HB1.out⟩
/-- a graph and the three boxes of targetsOf's closure -/
structure TgAt (w : World) (b n s : Nat) (L : List E3) (B C F c f : Nat) : Prop where
  g : GraphAt w b n s L
  hc : c < 256
  hf : f ≤ 1000000
  cB : w.cell? ⟨B, 0, none⟩ = some (.pointer (some ⟨b, 0, none⟩))
  cC : w.cell? ⟨C, 0, none⟩ = some (.int .u8 (c : Int))
  cF : w.cell? ⟨F, 0, none⟩ = some (.int .i64 (f : Int))
theorem TgAt.kept {w w' : World} {b n s : Nat} {L : List E3} {B C F c f : Nat} (h : TgAt w b n s L B C F c f) (hk : ∀ p v, w.cell? p = some v → w'.cell? p = some v) : TgAt w' b n s L B C F c f :=
  ⟨h.g.kept hk, h.hc, h.hf, hk _ _ h.cB, hk _ _ h.cC, hk _ _ h.cF⟩
theorem TgAt.below {w w' : World} {b n s : Nat} {L : List E3} {B C F c f : Nat} (h : TgAt w b n s L B C F c f) (hB : Below w.heap.size w w') : TgAt w' b n s L B C F c f := h.kept (cell_kept hB)
set_option maxHeartbeats 4000000 in
theorem ends_targets {w : World} {b n s : Nat} {L : List E3} {B C F c f : Nat} (h : TgAt w b n s L B C F c f) (x y : Nat) (hx : x ≤ L.length) (hy : y ≤ L.length) :
    Calls Tryz.prog 95 #[.agg #[.int .i64 (x : Int), .int .i64 (y : Int)], .func (.func 139) #[] #[.pointer (some ⟨B, 0, none⟩), .pointer (some ⟨C, 0, none⟩), .pointer (some ⟨F, 0, none⟩)]] w fun e w' => e = .returned (.agg #[.int .i64 ((f + cnt (eqf (labs L) c) x : Nat) : Int), .int .i64 ((f + cnt (eqf (labs L) c) y : Nat) : Int)]) ∧ Below w.heap.size w w' := by
  have hB := below2 w (.cells #[.int .i64 (x : Int), .int .i64 (y : Int)] 133) (.cells #[.int .i64 0, .int .i64 0] 133)
  have HB : Hid _ := hB
  have HG : Hid _ := h.below hB
  obtain ⟨k0, k1, k2, k3, m0, m1⟩ := two_spans w (.int .i64 (x : Int)) (.int .i64 (y : Int)) (.int .i64 0) (.int .i64 0) 133
  have HX : Hid (∀ W, TgAt W b n s L B C F c f → Calls Tryz.prog 139 #[.int .i64 (x : Int), .pointer (some ⟨B, 0, none⟩), .pointer (some ⟨C, 0, none⟩), .pointer (some ⟨F, 0, none⟩)] W _) := fun W h => targets1_any h.g B C F c f h.hc h.hf h.cB h.cC h.cF x hx
  have HY : Hid (∀ W, TgAt W b n s L B C F c f → Calls Tryz.prog 139 #[.int .i64 (y : Int), .pointer (some ⟨B, 0, none⟩), .pointer (some ⟨C, 0, none⟩), .pointer (some ⟨F, 0, none⟩)] W _) := fun W h => targets1_any h.g B C F c f h.hc h.hf h.cB h.cC h.cF y hy
  clear h hB hx hy
  go_enter Tryz.func95, Tryz.ntmps95
  go_wp2_with fail
  go_region_held3 (fun w' => w'.cell? ⟨w.heap.size, 0, none⟩ = some (.int .i64 (x : Int)) ∧ w'.cell? ⟨w.heap.size, 1, none⟩ = some (.int .i64 (y : Int))) (go_keep)
    (first
      | (go_at_call_of 139 (Value.int IntKind.i64 (x : Int)); refine (HX.out _ ?_).mono ?_; (first | exact (HG.out.kept (fun _ _ h => h)) | exact (HG.out.below hBy) | exact ((HG.out.below hBy).kept (fun _ _ h => h))); rintro r wx ⟨rfl, hB0x⟩; have hBx : Below ((w.alloc (.cells #[.int .i64 (x : Int), .int .i64 (y : Int)] 133)).alloc (.cells #[.int .i64 0, .int .i64 0] 133)).heap.size ((w.alloc (.cells #[.int .i64 (x : Int), .int .i64 (y : Int)] 133)).alloc (.cells #[.int .i64 0, .int .i64 0] 133)) wx := (by first | exact (((Below.refl _ _).drew).trans hB0x) | exact chain hBy hB0x | exact chain hBy (((Below.refl _ _).drew).trans hB0x)); have q1x := cell_kept hBx _ _ k0; have q2x := cell_kept hBx _ _ k1; have q3x := cell_kept hBx _ _ k2; have q4x := cell_kept hBx _ _ k3; have q5x := (hBx.frozen (p := ⟨w.heap.size + 1, 0, none⟩) (by simp)).trans m0; have q6x := (hBx.frozen (p := ⟨w.heap.size + 1, 1, none⟩) (by simp)).trans m1; have q7x := hBx.size)
      | (go_at_call_of 139 (Value.int IntKind.i64 (y : Int)); refine (HY.out _ ?_).mono ?_; (first | exact (HG.out.kept (fun _ _ h => h)) | exact (HG.out.below hBx) | exact ((HG.out.below hBx).kept (fun _ _ h => h))); rintro r wy ⟨rfl, hB0y⟩; have hBy : Below ((w.alloc (.cells #[.int .i64 (x : Int), .int .i64 (y : Int)] 133)).alloc (.cells #[.int .i64 0, .int .i64 0] 133)).heap.size ((w.alloc (.cells #[.int .i64 (x : Int), .int .i64 (y : Int)] 133)).alloc (.cells #[.int .i64 0, .int .i64 0] 133)) wy := (by first | exact (((Below.refl _ _).drew).trans hB0y) | exact chain hBx hB0y | exact chain hBx (((Below.refl _ _).drew).trans hB0y)); have q1y := cell_kept hBy _ _ k0; have q2y := cell_kept hBy _ _ k1; have q3y := cell_kept hBy _ _ k2; have q4y := cell_kept hBy _ _ k3; have q5y := (hBy.frozen (p := ⟨w.heap.size + 1, 0, none⟩) (by simp)).trans m0; have q6y := (hBy.frozen (p := ⟨w.heap.size + 1, 1, none⟩) (by simp)).trans m1; have q7y := hBy.size))
  all_goals
    go_wp2
    refine bodyPost_ret (v := .agg #[.int .i64 ((f + cnt (eqf (labs L) c) x : Nat) : Int), .int .i64 ((f + cnt (eqf (labs L) c) y : Nat) : Int)]) (by simp [results, Tryz.results95, go_sem, *]) rfl ?_
    first
      | exact ⟨rfl, ((chain HB.out hBy).setCell (p := ⟨w.heap.size + 1, 0, none⟩) (Nat.le_succ _) _).setCell (p := ⟨w.heap.size + 1, 1, none⟩) (Nat.le_succ _) _⟩
      | exact ⟨rfl, ((chain HB.out hBx).setCell (p := ⟨w.heap.size + 1, 0, none⟩) (Nat.le_succ _) _).setCell (p := ⟨w.heap.size + 1, 1, none⟩) (Nat.le_succ _) _⟩
end Go.Proofs.YtphjbbbnbmafnabGreatDoor.G
