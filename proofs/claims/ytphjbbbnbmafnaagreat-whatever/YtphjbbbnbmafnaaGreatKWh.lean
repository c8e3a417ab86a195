/-
  trelliskeep.Whatever: whatever is opened, built anew is the same bytes: true, for every image; nothing that was there is written.
-/
import Derived.Test.YtphjbbbnbmafnaaGreatPEo
import Derived.Test.YtphjbbbnbmafnaaGreatPOpen
import Derived.Test.YtphjbbbnbmafnaaGreatKnown
namespace Go.Proofs.YtphjbbbnbmafnaaGreat.G
open Go.RowKit

attribute [local go_sem ↓] Go.wp_at_zero Go.wp_at_succ
set_option maxHeartbeats 2000000 in
set_option maxRecDepth 100000 in
theorem whatever_any (img : ByteArray) (w : World) (hb : img.size ≤ 9223372036854775807) :
    Calls Tryz.prog 5 #[.string img] w fun e w' => e = .returned (.bool true) ∧ Below w.heap.size w w' := by
  have HK : Hid (Calls Tryz.prog 10 _ w _) := known_any w
  have HO : Hid (∀ W, Calls Tryz.prog 12 #[.string img] W (OpenPost GraphAt img W)) := fun W => open_any img W hb
  clear hb
  go_enter Tryz.func5, Tryz.ntmps5
  go_wp2_with fail
  refine (Calls.mono HK.out ?_)
  rintro e w1 ⟨rfl, hB1⟩
  have HB1 : Hid _ := hB1
  clear hB1 HK
  go_wp2_with fail
  refine (Calls.mono (HO.out w1) ?_)
  rintro e w2 ⟨hB2, ⟨_, rfl⟩ | ⟨_, _, rfl⟩ | ⟨_, _, _, rfl⟩ | ⟨n, s, L, b, his, rfl, hg⟩⟩
  · have HB2 : Hid _ := chain HB1.out hB2
    clear hB2
    go_wp2
    go_ret
    exact ⟨rfl, HB2.out⟩
  · have HB2 : Hid _ := chain HB1.out hB2
    clear hB2
    go_wp2
    go_ret
    exact ⟨rfl, HB2.out⟩
  · have HB2 : Hid _ := chain HB1.out hB2
    clear hB2
    go_wp2
    go_ret
    exact ⟨rfl, HB2.out⟩
  · have HB2 : Hid _ := chain HB1.out hB2
    have HG : Hid _ := hg
    have HI : Hid _ := is_img his
    have HS : Hid (Calls Tryz.prog 9 _ w2 _) := gsize_any hg
    clear hB2 hg his HO
    go_wp2_with fail
    refine (Calls.mono HS.out ?_)
    rintro e w3 ⟨rfl, hB3⟩
    have HB3 : Hid (Below w2.heap.size w2 (w3.alloc (.cells #[.int .i64 (n : Int), .int .i64 (s : Int), .int .i64 (L.length : Int)] 32))) := hB3.alloc hB3.size _
    have k0 : (w3.alloc (.cells #[.int .i64 (n : Int), .int .i64 (s : Int), .int .i64 (L.length : Int)] 32)).cell? ⟨w3.heap.size, 0, none⟩ = some (.int .i64 (n : Int)) := by simp
    have k1 : (w3.alloc (.cells #[.int .i64 (n : Int), .int .i64 (s : Int), .int .i64 (L.length : Int)] 32)).cell? ⟨w3.heap.size, 1, none⟩ = some (.int .i64 (s : Int)) := by simp
    have HE : Hid (∀ W, GraphAt W b n s L → Calls Tryz.prog 13 #[.pointer (some ⟨b, 0, none⟩)] W _) := fun W h => gedges_any h
    have HBd : Hid (∀ (v : Value) W, EdgesAt W v L → Calls Tryz.prog 11 #[.int .i64 (n : Int), .int .i64 (s : Int), v] W fun e w' => e = .returned (.tuple #[.string img, .int .i64 0]) ∧ Below W.heap.size W w') := (fun v W h => by
      have := build_any n s L v W h
      rw [HI.out.1, HI.out.2] at this
      exact this : ∀ v W, _)
    clear hB3 HS
    go_wp2_with fail
    go_region_held3 (fun w' => w'.cell? ⟨w3.heap.size, 0, none⟩ = some (.int .i64 (n : Int)) ∧ w'.cell? ⟨w3.heap.size, 1, none⟩ = some (.int .i64 (s : Int))) (go_keep)
      (first
        | (go_at_call 13; refine (HE.out _ ?_).mono ?_; exact ((HG.out.below HB3.out).kept (fun _ _ h => h)); rintro r w4 ⟨v4, rfl, hO4⟩; have hB4 := ((Below.refl _ _).drew).trans hO4.2; have q1 := cell_kept hB4 _ _ k0; have q2 := cell_kept hB4 _ _ k1)
        | (go_at_call 11; refine (HBd.out _ _ ?_).mono ?_; exact (own_edges hO4.1); rintro r w5 ⟨rfl, hB5⟩; have q3 := cell_kept hB5 _ _ q1; have q4 := cell_kept hB5 _ _ q2))
    have HBf : Hid _ := chain (chain HB2.out (chain HB3.out hB4)) hB5
    clear hB4 hB5 hO4
    go_wp2
    go_ret
    exact ⟨rfl, HBf.out⟩
end Go.Proofs.YtphjbbbnbmafnaaGreat.G
