/-
  bits.OnesCount64, called with any number below 2^64, returns how many ones it has; the world stays as it was. No condition besides.
  succ.selectInWord, called with a number below 2^64 and a k below the count of its ones, returns the place of its k-th one; the world stays as it was. No condition besides.
-/
import Derived.Test.YtphjbbbnbmafnabGreatDoorRows
import Derived.Test.YtphjbbbnbmafnabGreatDoorMath
import Derived.WalkKit
import Derived.ProofKit
import Derived.WalkLawsBesides
import Derived.WalkSpells
namespace Go.Proofs.YtphjbbbnbmafnabGreatDoor
open Go.RowKit

def k1 (x : Int) : Int := IntKind.u64.wrap (bits .and .u64 (x / 2) 6148914691236517205 + bits .and .u64 x 6148914691236517205)
def k2 (x : Int) : Int := IntKind.u64.wrap (bits .and .u64 (x / 4) 3689348814741910323 + bits .and .u64 x 3689348814741910323)
def k3 (x : Int) : Int := bits .and .u64 (IntKind.u64.wrap (x / 16 + x)) 1085102592571150095
def k4 (x : Int) : Int := IntKind.u64.wrap (x + x / 256)
def k5 (x : Int) : Int := IntKind.u64.wrap (x + x / 65536)
def k6 (x : Int) : Int := IntKind.u64.wrap (x + x / 4294967296)
def onesI (x : Int) : Int := bits .and .i64 (wrap64 (k6 (k5 (k4 (k3 (k2 (k1 x))))))) 127

theorem wrap_nat (n : Nat) (h : n < 18446744073709551616) : IntKind.u64.wrap (n : Int) = (n : Int) := by rw [IntKind.wrap_u64]; omega
theorem k1_nat (x : Nat) (hx : x < 18446744073709551616) (h : c1 x < 18446744073709551616) : k1 (x : Int) = (c1 x : Int) := by
  have a := u64_and_nat (x / 2) 6148914691236517205 (by omega) (by omega)
  have b := u64_and_nat x 6148914691236517205 hx (by omega)
  have c := wrap_nat (c1 x) h
  unfold k1
  simp only [Int.natCast_ediv, Int.cast_ofNat_Int] at a b
  rw [a, b, ← Int.natCast_add]
  exact c
theorem k2_nat (x : Nat) (hx : x < 18446744073709551616) (h : c2 x < 18446744073709551616) : k2 (x : Int) = (c2 x : Int) := by
  have a := u64_and_nat (x / 4) 3689348814741910323 (by omega) (by omega)
  have b := u64_and_nat x 3689348814741910323 hx (by omega)
  have c := wrap_nat (c2 x) h
  unfold k2
  simp only [Int.natCast_ediv, Int.cast_ofNat_Int] at a b
  rw [a, b, ← Int.natCast_add]
  exact c
theorem k3_nat (x : Nat) (h : x / 16 + x < 18446744073709551616) : k3 (x : Int) = (c3 x : Int) := by
  have a := u64_and_nat (x / 16 + x) 1085102592571150095 h (by omega)
  have c := wrap_nat (x / 16 + x) h
  unfold k3 c3
  simp only [Int.natCast_ediv, Int.cast_ofNat_Int, Int.natCast_add] at a c
  rw [c, a]
theorem k4_nat (x : Nat) (h : c4 x < 18446744073709551616) : k4 (x : Int) = (c4 x : Int) := by
  have c := wrap_nat (c4 x) h
  unfold k4
  unfold c4 at c ⊢
  simp only [Int.natCast_ediv, Int.cast_ofNat_Int, Int.natCast_add] at c ⊢
  exact c
theorem k5_nat (x : Nat) (h : c5 x < 18446744073709551616) : k5 (x : Int) = (c5 x : Int) := by
  have c := wrap_nat (c5 x) h
  unfold k5
  unfold c5 at c ⊢
  simp only [Int.natCast_ediv, Int.cast_ofNat_Int, Int.natCast_add] at c ⊢
  exact c
theorem k6_nat (x : Nat) (h : c6 x < 18446744073709551616) : k6 (x : Int) = (c6 x : Int) := by
  have c := wrap_nat (c6 x) h
  unfold k6
  unfold c6 at c ⊢
  simp only [Int.natCast_ediv, Int.cast_ofNat_Int, Int.natCast_add] at c ⊢
  exact c
theorem and127 (x : Nat) (h : x < 9223372036854775808) : bits .and .i64 (wrap64 (x : Int)) 127 = ((x % 128 : Nat) : Int) := by
  have e : wrap64 (x : Int) = (x : Int) := by unfold wrap64; omega
  rw [e]
  have h1 : (BitVec.ofInt 64 (x : Int)).toNat = x := by rw [BitVec.ofInt_natCast, BitVec.toNat_ofNat]; exact Nat.mod_eq_of_lt (by omega)
  show IntKind.i64.wrap ((BitVec.ofInt 64 (x : Int) &&& BitVec.ofInt 64 127).toNat : Int) = _
  rw [BitVec.toNat_and, h1, show (BitVec.ofInt 64 127).toNat = 127 from by decide, nat_mask7, IntKind.wrap_i64]
  omega
theorem onesI_nat (x : Nat) (hx : x < 18446744073709551616) : onesI (x : Int) = (pop x : Int) := by
  obtain ⟨h1, h2, h3, h4, h5, h6, h7⟩ := steps x hx
  unfold onesI
  rw [k1_nat x hx h1, k2_nat _ h1 h2, k3_nat _ h3, k4_nat _ h4, k5_nat _ h5, k6_nat _ (by omega), and127 _ h6, h7]

theorem ret_int {k : IntKind} {a b : Int} (h : a = b) : Ending.returned (.int k a) = .returned (.int k b) := by rw [h]

set_option maxHeartbeats 400000 in
theorem ones_any (x : Nat) (hx : x < 18446744073709551616) (w : World) :
    Calls Tryz.prog 105 #[.int .u64 (x : Int)] w fun e w' => e = .returned (.int .i64 (pop x : Int)) ∧ w' = w := by
  have H : Hid (onesI (x : Int) = (pop x : Int)) := onesI_nat x hx
  go_enter Tryz.func105, Tryz.ntmps105
  go_wp2
  go_ret
  exact ⟨ret_int H.out, rfl⟩
end Go.Proofs.YtphjbbbnbmafnabGreatDoor

namespace Go.Proofs.YtphjbbbnbmafnabGreatDoor
open Go.RowKit

theorem pop_mask (x h : Nat) (h64 : h ≤ 64) : pop (x &&& (2 ^ h - 1)) = cnt x.testBit h := by
  unfold pop
  rw [show (64 : Nat) = h + (64 - h) from by omega, cnt_add]
  have e1 : cnt (x &&& (2 ^ h - 1)).testBit h = cnt x.testBit h := cnt_congr fun i hi => by
    rw [Nat.testBit_and, Nat.testBit_two_pow_sub_one]; simp [hi]
  have e2 : cnt (fun i => (x &&& (2 ^ h - 1)).testBit (h + i)) (64 - h) = 0 := cnt_false fun i _ => by
    rw [Nat.testBit_and, Nat.testBit_two_pow_sub_one]; simp
  rw [e1, e2]; rfl
theorem ones_mask (x h : Nat) (M : Int) (hM : M = ((2 ^ h - 1 : Nat) : Int)) (h64 : h ≤ 64) (hx : x < 18446744073709551616) (w : World) :
    Calls Tryz.prog 105 #[.int .u64 (bits .and .u64 (x : Int) M)] w fun e w' => e = .returned (.int .i64 (cnt x.testBit h : Int)) ∧ w' = w := by
  subst hM
  have hp : 2 ^ h ≤ 2 ^ 64 := Nat.pow_le_pow_right (by decide) h64
  rw [u64_and_nat x (2 ^ h - 1) hx (by omega), ← pop_mask x h h64]
  exact ones_any _ (Nat.lt_of_le_of_lt Nat.and_le_left hx) w

def wd (h : Nat) : Nat := if h = 0 then 1 else 2 * h
def SelInv (X K x k p h : Nat) : Prop := x = X / 2 ^ p ∧ cnt X.testBit p + k = K ∧ k < cnt x.testBit (wd h) ∧ p + wd h ≤ 64
theorem sel_no {X K x k p h h' : Nat} (hi : SelInv X K x k p h) (hw : wd h' = h) (hh : h ≠ 0) (hlt : k < cnt x.testBit h) : SelInv X K x k p h' := by
  obtain ⟨a, b, c, d⟩ := hi
  refine ⟨a, b, by rw [hw]; exact hlt, ?_⟩
  rw [hw]; unfold wd at d; rw [if_neg hh] at d; omega
theorem cnt_shift (x p h : Nat) : cnt (fun i => x.testBit (p + i)) h = cnt (x / 2 ^ p).testBit h := cnt_congr fun i _ => by rw [Nat.testBit_div_two_pow, Nat.add_comm]
theorem sel_yes {X K x k p h h' : Nat} (hi : SelInv X K x k p h) (hw : wd h' = h) (hh : h ≠ 0) (hle : cnt x.testBit h ≤ k) : SelInv X K (x / 2 ^ h) (k - cnt x.testBit h) (p + h) h' := by
  obtain ⟨a, b, c, d⟩ := hi
  unfold wd at c d; rw [if_neg hh] at c d
  refine ⟨?_, ?_, ?_, ?_⟩
  · rw [a, Nat.div_div_eq_div_mul, Nat.pow_add]
  · rw [cnt_add, cnt_shift, ← a]; omega
  · rw [hw]; rw [show 2 * h = h + h from by omega, cnt_add, cnt_shift] at c; omega
  · rw [hw]; omega
theorem sel_end {X K x k p : Nat} (hi : SelInv X K x k p 0) : p < 64 ∧ X.testBit p = true ∧ cnt X.testBit p = K := by
  obtain ⟨a, b, c, d⟩ := hi
  simp only [wd, if_true] at c d
  have e : cnt x.testBit 1 = (x.testBit 0).toNat := by simp [cnt]
  rw [e] at c
  have t : x.testBit 0 = true := by
    cases h : x.testBit 0 with
    | true => rfl
    | false => rw [h] at c; simp at c
  rw [t] at c
  simp at c
  refine ⟨by omega, ?_, by omega⟩
  rw [a, Nat.testBit_div_two_pow] at t
  simpa using t
theorem sel_start {X K : Nat} (hK : K < pop X) : SelInv X K X K 0 32 := ⟨by simp, by simp [cnt], hK, by simp [wd]⟩
theorem sel_lt {X K x k p h : Nat} (hi : SelInv X K x k p h) (_ : wd h ≤ 64) : k < 64 ∧ p < 64 := by
  obtain ⟨a, b, c, d⟩ := hi
  have := cnt_le x.testBit (wd h)
  have : 1 ≤ wd h := by unfold wd; split <;> omega
  omega

def SelRel (X K : Nat) (x k p h : Value) : Prop := ∃ x' k' p' h' : Nat, x = .int .u64 x' ∧ k = .int .i64 k' ∧ p = .int .i64 p' ∧ h = .int .i64 h' ∧ (h' = 32 ∨ h' = 16 ∨ h' = 8 ∨ h' = 4 ∨ h' = 2 ∨ h' = 1 ∨ h' = 0) ∧ Hid (SelInv X K x' k' p' h') ∧ x' < 18446744073709551616 ∧ k' < 64 ∧ p' < 64
theorem rel_no {X K x k p h h' : Nat} (hi : SelInv X K x k p h) (hw : wd h' = h) (hh : h ≠ 0) (hx : x < 18446744073709551616) (hlt : k < cnt x.testBit h) (hin : h' = 32 ∨ h' = 16 ∨ h' = 8 ∨ h' = 4 ∨ h' = 2 ∨ h' = 1 ∨ h' = 0) :
    SelRel X K (.int .u64 x) (.int .i64 k) (.int .i64 p) (.int .i64 h') := by
  have q := sel_no hi hw hh hlt
  have l := sel_lt q (by unfold wd; split <;> omega)
  exact ⟨x, k, p, h', rfl, rfl, rfl, rfl, hin, q, hx, l.1, l.2⟩
theorem rel_yes {X K x k p h h' : Nat} {y z t : Int} (hi : SelInv X K x k p h) (hw : wd h' = h) (hh : h ≠ 0) (hx : x < 18446744073709551616) (hle : cnt x.testBit h ≤ k) (hin : h' = 32 ∨ h' = 16 ∨ h' = 8 ∨ h' = 4 ∨ h' = 2 ∨ h' = 1 ∨ h' = 0)
    (hy : y = ((x / 2 ^ h : Nat) : Int)) (hz : z = (k : Int) - (cnt x.testBit h : Nat)) (ht : t = (p : Int) + (h : Nat)) : SelRel X K (.int .u64 y) (.int .i64 z) (.int .i64 t) (.int .i64 h') := by
  have q := sel_yes hi hw hh hle
  have l := sel_lt q (by unfold wd; split <;> omega)
  have d := Nat.div_le_self x (2 ^ h)
  refine ⟨x / 2 ^ h, k - cnt x.testBit h, p + h, h', by rw [hy], ?_, ?_, rfl, hin, q, by omega, l.1, l.2⟩
  · rw [hz]; congr 1; omega
  · rw [ht]; congr 1

set_option maxHeartbeats 2000000 in
theorem sel_any (X K : Nat) (hX : X < 18446744073709551616) (hK : K < pop X) (w : World) :
    Calls Tryz.prog 158 #[.int .u64 (X : Int), .int .i64 (K : Int)] w fun e w' => ∃ p : Nat, e = .returned (.int .i64 (p : Int)) ∧ w' = w ∧ p < 64 ∧ X.testBit p = true ∧ cnt X.testBit p = K := by
  go_enter Tryz.func158, Tryz.ntmps158
  go_wp2
  go_loop [0, 1, 5, 6] (fun x k p h => SelRel X K x k p h) (fun _ _ _ h => (intOf h).toNat)
  case atStart => exact ⟨X, K, 0, 32, rfl, rfl, rfl, rfl, .inl rfl, sel_start hK, hX, by have := pop_le X; omega, by omega⟩
  case round =>
    obtain ⟨x', k', p', h', rfl, rfl, rfl, rfl, hh, hinv, hx, hk, hp⟩ := hrel
    rcases hh with rfl | rfl | rfl | rfl | rfl | rfl | rfl
    · have hcl := cnt_le x'.testBit 32
      by_cases hc : cnt x'.testBit 32 ≤ k'
      · go_wp2_with (go_at_call 105; refine (ones_mask _ 32 _ (by decide) (by decide) hx _).mono ?_; rintro e w' ⟨rfl, rfl⟩)
        go_round
        case rel => exact rel_yes (h' := 16) hinv.out rfl (by decide) hx hc (by decide) (by simp) rfl rfl
        case measure => simp [intOf]
      · go_wp2_with (go_at_call 105; refine (ones_mask _ 32 _ (by decide) (by decide) hx _).mono ?_; rintro e w' ⟨rfl, rfl⟩)
        go_round
        case rel => exact rel_no (h' := 16) hinv.out rfl (by decide) hx (by omega) (by decide)
        case measure => simp [intOf]
    · have hcl := cnt_le x'.testBit 16
      by_cases hc : cnt x'.testBit 16 ≤ k'
      · go_wp2_with (go_at_call 105; refine (ones_mask _ 16 _ (by decide) (by decide) hx _).mono ?_; rintro e w' ⟨rfl, rfl⟩)
        go_round
        case rel => exact rel_yes (h' := 8) hinv.out rfl (by decide) hx hc (by decide) (by simp) rfl rfl
        case measure => simp [intOf]
      · go_wp2_with (go_at_call 105; refine (ones_mask _ 16 _ (by decide) (by decide) hx _).mono ?_; rintro e w' ⟨rfl, rfl⟩)
        go_round
        case rel => exact rel_no (h' := 8) hinv.out rfl (by decide) hx (by omega) (by decide)
        case measure => simp [intOf]
    · have hcl := cnt_le x'.testBit 8
      by_cases hc : cnt x'.testBit 8 ≤ k'
      · go_wp2_with (go_at_call 105; refine (ones_mask _ 8 _ (by decide) (by decide) hx _).mono ?_; rintro e w' ⟨rfl, rfl⟩)
        go_round
        case rel => exact rel_yes (h' := 4) hinv.out rfl (by decide) hx hc (by decide) (by simp) rfl rfl
        case measure => simp [intOf]
      · go_wp2_with (go_at_call 105; refine (ones_mask _ 8 _ (by decide) (by decide) hx _).mono ?_; rintro e w' ⟨rfl, rfl⟩)
        go_round
        case rel => exact rel_no (h' := 4) hinv.out rfl (by decide) hx (by omega) (by decide)
        case measure => simp [intOf]
    · have hcl := cnt_le x'.testBit 4
      by_cases hc : cnt x'.testBit 4 ≤ k'
      · go_wp2_with (go_at_call 105; refine (ones_mask _ 4 _ (by decide) (by decide) hx _).mono ?_; rintro e w' ⟨rfl, rfl⟩)
        go_round
        case rel => exact rel_yes (h' := 2) hinv.out rfl (by decide) hx hc (by decide) (by simp) rfl rfl
        case measure => simp [intOf]
      · go_wp2_with (go_at_call 105; refine (ones_mask _ 4 _ (by decide) (by decide) hx _).mono ?_; rintro e w' ⟨rfl, rfl⟩)
        go_round
        case rel => exact rel_no (h' := 2) hinv.out rfl (by decide) hx (by omega) (by decide)
        case measure => simp [intOf]
    · have hcl := cnt_le x'.testBit 2
      by_cases hc : cnt x'.testBit 2 ≤ k'
      · go_wp2_with (go_at_call 105; refine (ones_mask _ 2 _ (by decide) (by decide) hx _).mono ?_; rintro e w' ⟨rfl, rfl⟩)
        go_round
        case rel => exact rel_yes (h' := 1) hinv.out rfl (by decide) hx hc (by decide) (by simp) rfl rfl
        case measure => simp [intOf]
      · go_wp2_with (go_at_call 105; refine (ones_mask _ 2 _ (by decide) (by decide) hx _).mono ?_; rintro e w' ⟨rfl, rfl⟩)
        go_round
        case rel => exact rel_no (h' := 1) hinv.out rfl (by decide) hx (by omega) (by decide)
        case measure => simp [intOf]
    · have hcl := cnt_le x'.testBit 1
      by_cases hc : cnt x'.testBit 1 ≤ k'
      · go_wp2_with (go_at_call 105; refine (ones_mask _ 1 _ (by decide) (by decide) hx _).mono ?_; rintro e w' ⟨rfl, rfl⟩)
        go_round
        case rel => exact rel_yes (h' := 0) hinv.out rfl (by decide) hx hc (by decide) (by simp) rfl rfl
        case measure => simp [intOf]
      · go_wp2_with (go_at_call 105; refine (ones_mask _ 1 _ (by decide) (by decide) hx _).mono ?_; rintro e w' ⟨rfl, rfl⟩)
        go_round
        case rel => exact rel_no (h' := 0) hinv.out rfl (by decide) hx (by omega) (by decide)
        case measure => simp [intOf]
    · go_wp2
      go_ret
      exact ⟨p', rfl, rfl, sel_end hinv.out⟩
end Go.Proofs.YtphjbbbnbmafnabGreatDoor
