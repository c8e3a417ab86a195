/-
  trelliskeep.shown returns true, and trelliskeep.pick returns a number from 0 up to but without n (n from 1 up); nothing that was there is written. No condition besides.
-/
import Derived.Test.YtphjbbbnbmafnaaNew
namespace Go.Proofs.Ytphjbbbnbmafnaa
open Go.RowKit

def sample : ByteArray := { data := #[48, 49, 49, 48, 49] }
theorem sample_ok : okB sample = true := by decide
theorem sample_cnt : cnt (bitOf sample) 3 = 2 ∧ sample.size = 5 := by decide

set_option maxHeartbeats 400000 in
theorem shown_any (w : World) : Calls Try.prog 17 #[] w fun e w' => e = .returned (.bool true) ∧ Below w.heap.size w w' := by
  go_enter Try.func17, Try.ntmps17
  go_wp2_with fail
  change Calls Try.prog 18 #[.string sample] _ _
  refine (new_any sample w (by decide)).mono ?_
  rintro e w' ⟨hB, ⟨hf, rfl⟩ | ⟨_, b, bw, ba, W, rfl, hb⟩⟩
  · rw [sample_ok] at hf; cases hf
  · go_wp2_with fail
    have hr := rank_yes hb 3 (by decide)
    rw [sample_cnt.1] at hr
    refine hr.mono ?_
    clear hr
    rintro e w'' ⟨rfl, q, rfl⟩
    go_wp2_with fail
    have hl := len_any (hb.drewN q)
    rw [sample_cnt.2] at hl
    refine hl.mono ?_
    clear hl
    rintro e w'' ⟨rfl, rfl⟩
    go_wp2
    go_ret
    exact ⟨rfl, below_drewN hB _⟩
set_option maxHeartbeats 400000 in
theorem pick_any (c : Int) (n : Nat) (hc : -9223372036854775808 ≤ c ∧ c ≤ 9223372036854775807) (hn : 1 ≤ n) (hn2 : n ≤ 9223372036854775807) (N : Int) (hN : N = (n : Int)) (w : World) :
    Calls Try.prog 19 #[.int .i64 c, .int .i64 N] w fun e w' => ∃ r : Nat, e = .returned (.int .i64 (r : Int)) ∧ r < n ∧ w' = w := by
  subst hN
  obtain ⟨h1, h2⟩ := hc
  have hz : ((n : Int) == 0) = false := by simp; omega
  by_cases h : c < 0
  · go_enter Try.func19, Try.ntmps19
    go_wp2
    go_ret
    have e : -(c + 1).tmod (n : Int) = (-(c + 1)) % (n : Int) := by
      rw [← Int.neg_tmod, Int.tmod_eq_emod_of_nonneg (by omega)]
    have l0 := Int.emod_nonneg (-(c + 1)) (show (n : Int) ≠ 0 by omega)
    have l1 := Int.emod_lt_of_pos (-(c + 1)) (show (0 : Int) < (n : Int) by omega)
    exact ⟨((-(c + 1)) % (n : Int)).toNat, ret_int (by rw [e]; omega), by omega, rfl⟩
  · go_enter Try.func19, Try.ntmps19
    go_wp2
    go_ret
    have l0 := Int.emod_nonneg c (show (n : Int) ≠ 0 by omega)
    have l1 := Int.emod_lt_of_pos c (show (0 : Int) < (n : Int) by omega)
    exact ⟨(c % (n : Int)).toNat, ret_int (by omega), by omega, rfl⟩
end Go.Proofs.Ytphjbbbnbmafnaa
