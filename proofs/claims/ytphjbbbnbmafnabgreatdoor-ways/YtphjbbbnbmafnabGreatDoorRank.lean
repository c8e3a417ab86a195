/-
  (*succ.Bits).Rank and Len over a vector that lies in memory as NewBits makes it ('BitsAt'): Rank answers the ones ahead of a place, or ErrRange; nothing is written. The vector's reading is the one condition.
-/
import Derived.Test.YtphjbbbnbmafnabGreatDoorSel
import Derived.Deep.QuietTactic
import Derived.BigQuiet
namespace Go.Proofs.YtphjbbbnbmafnabGreatDoor
open Go.RowKit

/-- A vector of n bits f, as NewBits lays it: its struct in block b, its words in block bw, the counts ahead of each word in block ba. -/
structure BitsAt (w : World) (b bw ba : Nat) (f : Nat → Bool) (n : Nat) (W : Nat → Nat) : Prop where
  hn : n ≤ 100000
  len : w.cell? ⟨b, 0, none⟩ = some (.int .i64 (n : Int))
  ones : w.cell? ⟨b, 1, none⟩ = some (.int .i64 (cnt f n : Int))
  words : w.cell? ⟨b, 2, none⟩ = some (.slice (some ⟨bw, 0, none⟩) (n / 64 + 1) (n / 64 + 1))
  ahead : w.cell? ⟨b, 3, none⟩ = some (.slice (some ⟨ba, 0, none⟩) (n / 64 + 1) (n / 64 + 1))
  word : ∀ j, j < n / 64 + 1 → w.cell? ⟨bw, j, none⟩ = some (.int .u64 (W j : Int))
  ahd : ∀ j, j < n / 64 + 1 → w.cell? ⟨ba, j, none⟩ = some (.int .u32 (cnt f (64 * j) : Int))
  wlt : ∀ j, W j < 18446744073709551616
  wbit : ∀ j i, i < 64 → (W j).testBit i = f (64 * j + i)
  out : ∀ i, n ≤ i → f i = false

theorem two_pow_int (k : Nat) : ((2 ^ k : Nat) : Int) = (2 : Int) ^ k := by simp
theorem mask_int (k : Nat) (hk : k < 64) : IntKind.u64.wrap (IntKind.u64.wrap ((2 : Int) ^ k) - 1) = ((2 ^ k - 1 : Nat) : Int) := by
  have h1 : 2 ^ k ≤ 2 ^ 63 := Nat.pow_le_pow_right (by decide) (by omega)
  have h2 : 1 ≤ 2 ^ k := Nat.one_le_two_pow
  rw [← two_pow_int, IntKind.wrap_u64, IntKind.wrap_u64]
  generalize 2 ^ k = m at *
  omega
theorem rank_value {b bw ba n : Nat} {f : Nat → Bool} {W : Nat → Nat} {w : World} (hb : BitsAt w b bw ba f n W) (i : Nat) : cnt f (64 * (i / 64)) + cnt (W (i / 64)).testBit (i % 64) = cnt f i := by
  have e : cnt f i = cnt f (64 * (i / 64) + i % 64) := by congr 1; omega
  rw [e, cnt_add]
  congr 1
  exact cnt_congr fun t ht => hb.wbit _ _ (by omega)

theorem ret2_int {a b : Int} {c : Value} (h : a = b) : Ending.returned (.tuple #[.int .i64 a, c]) = .returned (.tuple #[.int .i64 b, c]) := by rw [h]
theorem ret1_int {a b : Int} {k : IntKind} (h : a = b) : Ending.returned (.int k a) = .returned (.int k b) := by rw [h]
set_option maxHeartbeats 400000 in
/-- onesAhead: the ones ahead of a place. -/
theorem oa_any {w : World} {b bw ba n : Nat} {f : Nat → Bool} {W : Nat → Nat} (hb : BitsAt w b bw ba f n W) (i : Nat) (h : i ≤ n) (I : Int) (hI : I = (i : Int)) :
    Calls Tryz.prog 149 #[.pointer (some ⟨b, 0, none⟩), .int .i64 I] w fun e w' => e = .returned (.int .i64 (cnt f i : Int)) ∧ ∃ q, w' = w.drewN q := by
  subst hI
  have h2 := hb.words
  have h3 := hb.ahead
  have hn := hb.hn
  have hw := hb.word (i / 64) (by omega)
  have ha := hb.ahd (i / 64) (by omega)
  have hl := hb.wlt (i / 64)
  have hm := mask_int (i % 64) (by omega)
  have HM : Hid _ := hm
  clear hm
  have hv := rank_value hb i
  have hc1 := cnt_le f (64 * (i / 64))
  have hc2 := cnt_le (W (i / 64)).testBit (i % 64)
  have hi1 : (i : Int) / 64 < ((n / 64 + 1 : Nat) : Int) := by omega
  have HV : Hid _ := hv
  clear hv
  go_enter Tryz.func149, Tryz.ntmps149
  go_wp2
  go_quiet ((go_at_call 105; exact Calls.quiet_of_same (ones_mask _ (i % 64) _ HM.out (by omega) hl _)))
  go_wp2
  go_ret
  exact ⟨ret1_int (by rw [← HV.out]; omega), _, rfl⟩
end Go.Proofs.YtphjbbbnbmafnabGreatDoor
