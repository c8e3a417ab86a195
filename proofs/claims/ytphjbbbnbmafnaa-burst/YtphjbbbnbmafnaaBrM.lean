/-
  Bits of a page that are others, within 32 that lie one behind the other: what is put onto each byte, bit by bit of the mask; that the page's sum is then another: without the program. No condition.
-/
import Derived.Test.YtphjbbbnbmafnaaDec
namespace Go.Proofs.Ytphjbbbnbmafnaa.G
open Go.RowKit

/-- is the bit i of a page another, when the first k bits of the mask are through? -/
def eS (from_ mask k i : Nat) : Bool := decide (from_ ≤ i) && decide (i < from_ + k) && mask.testBit (i - from_)
/-- what is put onto the byte j -/
def eb (from_ mask k j : Nat) : Nat := numOf ((List.range 8).map fun t => eS from_ mask k (8 * j + t))
theorem testBit_numOf (l : List Bool) (u : Nat) : (numOf l).testBit u = (decide (u < l.length) && l.getD (l.length - 1 - u) false) := by
  have h := digs_numOf l
  have hg : ∀ (k n i : Nat), i < k → (digs k n).getD i false = n.testBit (k - 1 - i) := by
    intro k
    induction k with
    | zero => intro n i hi; omega
    | succ k ih =>
      intro n i hi
      unfold digs
      cases i with
      | zero => rfl
      | succ i =>
        have := ih n i (by omega)
        rw [List.getD_cons_succ, this]
        congr 1; omega
  by_cases hu : u < l.length
  · have := hg l.length (numOf l) (l.length - 1 - u) (by omega)
    rw [h] at this
    rw [this, decide_eq_true hu, Bool.true_and]
    congr 1; omega
  · have h1 := numOf_lt l
    have h2 : 2 ^ l.length ≤ 2 ^ u := Nat.pow_le_pow_right (by decide) (by omega)
    rw [Nat.testBit_lt_two_pow (by omega), decide_eq_false hu, Bool.false_and]
theorem eb_bit (from_ mask k j u : Nat) : (eb from_ mask k j).testBit u = (decide (u < 8) && eS from_ mask k (8 * j + (7 - u))) := by
  unfold eb
  rw [testBit_numOf]
  simp only [List.length_map, List.length_range]
  by_cases hu : u < 8
  · rw [decide_eq_true hu, Bool.true_and, Bool.true_and, List.getD_eq_getElem?_getD, List.getElem?_map, List.getElem?_range (by omega)]
    rfl
  · rw [decide_eq_false hu, Bool.false_and, Bool.false_and]
theorem eb_lt (from_ mask k j : Nat) : eb from_ mask k j < 256 := by
  unfold eb
  have := numOf_lt ((List.range 8).map fun t => eS from_ mask k (8 * j + t))
  simpa using this
theorem eb_zero (from_ mask j : Nat) : eb from_ mask 0 j = 0 := by
  apply Nat.eq_of_testBit_eq
  intro u
  rw [eb_bit, Nat.zero_testBit]
  unfold eS
  by_cases h : from_ ≤ 8 * j + (7 - u) <;> simp [h]
  omega
theorem eb_skip (from_ mask k j : Nat) (h : mask.testBit k = false) : eb from_ mask (k + 1) j = eb from_ mask k j := by
  apply Nat.eq_of_testBit_eq
  intro u
  rw [eb_bit, eb_bit]
  congr 1
  unfold eS
  by_cases e : 8 * j + (7 - u) = from_ + k
  · rw [e]; simp [h]
  · have : decide (8 * j + (7 - u) < from_ + (k + 1)) = decide (8 * j + (7 - u) < from_ + k) := by rw [Bool.eq_iff_iff]; simp; omega
    rw [this]
theorem eb_far (from_ mask k j : Nat) (h : j ≠ (from_ + k) / 8) : eb from_ mask (k + 1) j = eb from_ mask k j := by
  apply Nat.eq_of_testBit_eq
  intro u
  rw [eb_bit, eb_bit]
  by_cases hu : u < 8
  · congr 1
    unfold eS
    have : decide (8 * j + (7 - u) < from_ + (k + 1)) = decide (8 * j + (7 - u) < from_ + k) := by rw [Bool.eq_iff_iff]; simp; omega
    rw [this]
  · simp [hu]
theorem eb_here (from_ mask k : Nat) (h : mask.testBit k = true) : eb from_ mask (k + 1) ((from_ + k) / 8) = eb from_ mask k ((from_ + k) / 8) ^^^ 2 ^ (7 - (from_ + k) % 8) := by
  apply Nat.eq_of_testBit_eq
  intro u
  rw [Nat.testBit_xor, eb_bit, eb_bit, Nat.testBit_two_pow]
  by_cases hu : u < 8
  · rw [decide_eq_true hu, Bool.true_and, Bool.true_and]
    by_cases e : 7 - (from_ + k) % 8 = u
    · have e2 : 8 * ((from_ + k) / 8) + (7 - u) = from_ + k := by omega
      rw [e2, decide_eq_true e]
      unfold eS
      simp [h]
    · rw [decide_eq_false e, Bool.xor_false]
      unfold eS
      have : decide (8 * ((from_ + k) / 8) + (7 - u) < from_ + (k + 1)) = decide (8 * ((from_ + k) / 8) + (7 - u) < from_ + k) := by rw [Bool.eq_iff_iff]; simp; omega
      rw [this]
  · have e : ¬ 7 - (from_ + k) % 8 = u := by omega
    simp [hu, e]
/-- the bits of all that is put onto a page -/
theorem eb_bits (from_ mask k : Nat) : ∀ n, ((List.range n).map (eb from_ mask k)).flatMap Crc.bits8 = (List.range (8 * n)).map (eS from_ mask k)
  | 0 => rfl
  | n + 1 => by
    rw [List.range_succ, List.map_append, List.flatMap_append, eb_bits from_ mask k n, show 8 * (n + 1) = 8 * n + 8 by omega, map_range_take]
    refine congrArg (fun m => _ ++ m) ?_
    simp only [List.map_cons, List.map_nil, List.flatMap_cons, List.flatMap_nil, List.append_nil]
    have e : List.range 8 = [0, 1, 2, 3, 4, 5, 6, 7] := by decide
    rw [e]
    unfold Crc.bits8
    simp only [eb_bit, List.map_cons, List.map_nil]
    rfl
/-- zeros, the mask's bits, zeros -/
theorem eS_split (from_ mask z : Nat) : (List.range (from_ + 32 + z)).map (eS from_ mask 32) = List.replicate from_ false ++ (List.range 32).map mask.testBit ++ List.replicate z false := by
  rw [map_range_take, map_range_take]
  congr 1
  · congr 1
    · apply List.ext_getElem?
      intro i
      rw [List.getElem?_replicate]
      by_cases h : i < from_
      · rw [if_pos h, List.getElem?_map, List.getElem?_range h, Option.map_some]
        unfold eS
        rw [decide_eq_false (by omega : ¬ from_ ≤ i)]; rfl
      · rw [if_neg h, List.getElem?_eq_none (by simp; omega)]
    · refine List.map_congr_left (fun i hi => ?_)
      have hi : i < 32 := by simpa using hi
      unfold eS
      rw [decide_eq_true (by omega : from_ ≤ from_ + i), decide_eq_true (by omega : from_ + i < from_ + 32), Nat.add_sub_cancel_left]; rfl
  · apply List.ext_getElem?
    intro i
    rw [List.getElem?_replicate]
    by_cases h : i < z
    · rw [if_pos h, List.getElem?_map, List.getElem?_range h, Option.map_some]
      unfold eS
      rw [decide_eq_false (by omega : ¬ from_ + 32 + i < from_ + 32), Bool.and_false]; rfl
    · rw [if_neg h, List.getElem?_eq_none (by simp; omega)]
theorem zip_map {f g : Nat → Nat} (n : Nat) : List.zipWith (· ^^^ ·) ((List.range n).map f) ((List.range n).map g) = (List.range n).map fun i => f i ^^^ g i := by
  rw [List.zipWith_map]
  apply List.ext_getElem?
  intro i
  by_cases h : i < n
  · simp [h]
  · rw [List.getElem?_eq_none (by simp; omega), List.getElem?_eq_none (by simp; omega)]
/-- the bytes of a page with other bits: the sum is told -/
theorem burst_told (p : Nat) (f : Nat → Nat) (from_ mask : Nat) (hfrom : from_ + 32 ≤ 2048) (hm : ∃ k < 32, mask.testBit k = true)
    (hok : (List.range 4).map (fun i => f (252 + i)) = Crc.be4 (Crc.sumOf p ((List.range 252).map f))) :
    (List.range 4).map (fun i => f (252 + i) ^^^ eb from_ mask 32 (252 + i)) ≠ Crc.be4 (Crc.sumOf p ((List.range 252).map fun i => f i ^^^ eb from_ mask 32 i)) := by
  have h := Crc.told p ((List.range 252).map f) ((List.range 252).map (eb from_ mask 32)) ((List.range 4).map fun i => eb from_ mask 32 (252 + i)) (by simp) (by simp)
    (fun b hb => by obtain ⟨i, _, rfl⟩ := List.mem_map.1 hb; exact eb_lt _ _ _ _) (fun b hb => by obtain ⟨i, _, rfl⟩ := List.mem_map.1 hb; exact eb_lt _ _ _ _)
    from_ (2048 - from_ - 32) ((List.range 32).map mask.testBit) (by simp) (by
      obtain ⟨k, hk, hb⟩ := hm
      exact List.mem_map.2 ⟨k, List.mem_range.2 hk, hb⟩) (by
      rw [← map_range_take (eb from_ mask 32) 252 4, eb_bits, ← eS_split, show from_ + 32 + (2048 - from_ - 32) = 8 * (252 + 4) by omega])
  intro e
  apply h
  rw [zip_map, ← e, ← hok, zip_map]
end Go.Proofs.Ytphjbbbnbmafnaa.G
