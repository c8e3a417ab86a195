/-
  bits.OnesCount64, called with any number below 2^64, returns how many ones it has; the world stays as it was. No condition besides.
-/
import Derived.Test.YtphjbbbnbmafnaaRows
import Derived.Test.YtphjbbbnbmafnaaMath
import Derived.WalkKit
import Derived.ProofKit
import Derived.WalkLawsBesides
import Derived.WalkSpells
namespace Go.Proofs.Ytphjbbbnbmafnaa
open Go.RowKit

def k1 (x : Int) : Int := IntKind.u64.wrap (bits .and .u64 (x / 2) 6148914691236517205 + bits .and .u64 x 6148914691236517205)
def k2 (x : Int) : Int := IntKind.u64.wrap (bits .and .u64 (x / 4) 3689348814741910323 + bits .and .u64 x 3689348814741910323)
def k3 (x : Int) : Int := bits .and .u64 (IntKind.u64.wrap (x / 16 + x)) 1085102592571150095
def k4 (x : Int) : Int := IntKind.u64.wrap (x + x / 256)
def k5 (x : Int) : Int := IntKind.u64.wrap (x + x / 65536)
def k6 (x : Int) : Int := IntKind.u64.wrap (x + x / 4294967296)
def onesI (x : Int) : Int := bits .and .i64 (wrap64 (k6 (k5 (k4 (k3 (k2 (k1 x))))))) 127

theorem wrap_nat (n : Nat) (h : n < 18446744073709551616) : IntKind.u64.wrap (n : Int) = (n : Int) := by rw [IntKind.wrap_u64]; omega
theorem k1_nat (x : Nat) (hx : x < 18446744073709551616) (h : c1 x < 18446744073709551616) : k1 (x : Int) = (c1 x : Int) := by
  have a := u64_and_nat (x / 2) 6148914691236517205 (by omega) (by omega)
  have b := u64_and_nat x 6148914691236517205 hx (by omega)
  have c := wrap_nat (c1 x) h
  unfold k1
  simp only [Int.natCast_ediv, Int.cast_ofNat_Int] at a b
  rw [a, b, ← Int.natCast_add]
  exact c
theorem k2_nat (x : Nat) (hx : x < 18446744073709551616) (h : c2 x < 18446744073709551616) : k2 (x : Int) = (c2 x : Int) := by
  have a := u64_and_nat (x / 4) 3689348814741910323 (by omega) (by omega)
  have b := u64_and_nat x 3689348814741910323 hx (by omega)
  have c := wrap_nat (c2 x) h
  unfold k2
  simp only [Int.natCast_ediv, Int.cast_ofNat_Int] at a b
  rw [a, b, ← Int.natCast_add]
  exact c
theorem k3_nat (x : Nat) (h : x / 16 + x < 18446744073709551616) : k3 (x : Int) = (c3 x : Int) := by
  have a := u64_and_nat (x / 16 + x) 1085102592571150095 h (by omega)
  have c := wrap_nat (x / 16 + x) h
  unfold k3 c3
  simp only [Int.natCast_ediv, Int.cast_ofNat_Int, Int.natCast_add] at a c
  rw [c, a]
theorem k4_nat (x : Nat) (h : c4 x < 18446744073709551616) : k4 (x : Int) = (c4 x : Int) := by
  have c := wrap_nat (c4 x) h
  unfold k4
  unfold c4 at c ⊢
  simp only [Int.natCast_ediv, Int.cast_ofNat_Int, Int.natCast_add] at c ⊢
  exact c
theorem k5_nat (x : Nat) (h : c5 x < 18446744073709551616) : k5 (x : Int) = (c5 x : Int) := by
  have c := wrap_nat (c5 x) h
  unfold k5
  unfold c5 at c ⊢
  simp only [Int.natCast_ediv, Int.cast_ofNat_Int, Int.natCast_add] at c ⊢
  exact c
theorem k6_nat (x : Nat) (h : c6 x < 18446744073709551616) : k6 (x : Int) = (c6 x : Int) := by
  have c := wrap_nat (c6 x) h
  unfold k6
  unfold c6 at c ⊢
  simp only [Int.natCast_ediv, Int.cast_ofNat_Int, Int.natCast_add] at c ⊢
  exact c
theorem and127 (x : Nat) (h : x < 9223372036854775808) : bits .and .i64 (wrap64 (x : Int)) 127 = ((x % 128 : Nat) : Int) := by
  have e : wrap64 (x : Int) = (x : Int) := by unfold wrap64; omega
  rw [e]
  have h1 : (BitVec.ofInt 64 (x : Int)).toNat = x := by rw [BitVec.ofInt_natCast, BitVec.toNat_ofNat]; exact Nat.mod_eq_of_lt (by omega)
  show IntKind.i64.wrap ((BitVec.ofInt 64 (x : Int) &&& BitVec.ofInt 64 127).toNat : Int) = _
  rw [BitVec.toNat_and, h1, show (BitVec.ofInt 64 127).toNat = 127 from by decide, nat_mask7, IntKind.wrap_i64]
  omega
theorem onesI_nat (x : Nat) (hx : x < 18446744073709551616) : onesI (x : Int) = (pop x : Int) := by
  obtain ⟨h1, h2, h3, h4, h5, h6, h7⟩ := steps x hx
  unfold onesI
  rw [k1_nat x hx h1, k2_nat _ h1 h2, k3_nat _ h3, k4_nat _ h4, k5_nat _ h5, k6_nat _ (by omega), and127 _ h6, h7]

theorem ret_int {k : IntKind} {a b : Int} (h : a = b) : Ending.returned (.int k a) = .returned (.int k b) := by rw [h]

set_option maxHeartbeats 400000 in
theorem ones_any (x : Nat) (hx : x < 18446744073709551616) (w : World) :
    Calls Try.prog 78 #[.int .u64 (x : Int)] w fun e w' => e = .returned (.int .i64 (pop x : Int)) ∧ w' = w := by
  have H : Hid (onesI (x : Int) = (pop x : Int)) := onesI_nat x hx
  go_enter Try.func78, Try.ntmps78
  go_wp2
  go_ret
  exact ⟨ret_int H.out, rfl⟩
end Go.Proofs.Ytphjbbbnbmafnaa
