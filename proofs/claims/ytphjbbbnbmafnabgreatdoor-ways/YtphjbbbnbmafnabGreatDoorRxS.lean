/-
  Sets of places in words of 64 bits: their places in order, the lowest bit first: without the program.
-/
namespace Go.Proofs.YtphjbbbnbmafnabGreatDoor.RxM
/-- the bits that are set, in order -/
def bl (w : Nat) : List Nat := (List.range 64).filter w.testBit
theorem bl_rise (w : Nat) : (bl w).Pairwise (· < ·) := List.Pairwise.sublist List.filter_sublist List.pairwise_lt_range
theorem mem_bl {w p : Nat} : p ∈ bl w ↔ p < 64 ∧ w.testBit p = true := by unfold bl; rw [List.mem_filter, List.mem_range]
theorem bl_zero : bl 0 = [] := by unfold bl; simp
theorem rise_one : ∀ (l m : List Nat), l.Pairwise (· < ·) → m.Pairwise (· < ·) → (∀ x, x ∈ l ↔ x ∈ m) → l = m
  | [], [], _, _, _ => rfl
  | [], b :: m, _, _, h => absurd ((h b).2 (by simp)) (by simp)
  | a :: l, [], _, _, h => absurd ((h a).1 (by simp)) (by simp)
  | a :: l, b :: m, h1, h2, h => by
    rw [List.pairwise_cons] at h1 h2
    have e : a = b := by
      have ha := (h a).1 (by simp)
      have hb := (h b).2 (by simp)
      rcases List.mem_cons.1 ha with e | e
      · exact e
      · rcases List.mem_cons.1 hb with e2 | e2
        · exact e2.symm
        · have := h2.1 a e; have := h1.1 b e2; omega
    subst e
    refine congrArg (a :: ·) (rise_one l m h1.2 h2.2 fun x => ?_)
    constructor
    · intro hx
      rcases List.mem_cons.1 ((h x).1 (by simp [hx])) with e | e
      · have := h1.1 x hx; omega
      · exact e
    · intro hx
      rcases List.mem_cons.1 ((h x).2 (by simp [hx])) with e | e
      · have := h2.1 x hx; omega
      · exact e
/-- a number whose lowest bit is k -/
theorem low_bits (k m : Nat) (j : Nat) : (2 ^ k * (2 * m + 1)).testBit j = (decide (k ≤ j) && (2 * m + 1).testBit (j - k)) := by
  rw [Nat.testBit_two_pow_mul]
theorem low_less (k m : Nat) : 2 ^ k * (2 * m + 1) - 1 = 2 ^ k * (2 * m) + (2 ^ k - 1) := by
  have : 0 < 2 ^ k := Nat.two_pow_pos k
  rw [Nat.mul_add, Nat.mul_one]
  omega
theorem low_and (k m j : Nat) : ((2 ^ k * (2 * m + 1)) &&& (2 ^ k * (2 * m + 1) - 1)).testBit j = ((2 ^ k * (2 * m + 1)).testBit j && decide (j ≠ k)) := by
  rw [Nat.testBit_and, low_less, low_bits, Nat.testBit_two_pow_mul_add _ (Nat.sub_lt (Nat.two_pow_pos k) Nat.one_pos)]
  by_cases h1 : j < k
  · rw [if_pos h1, decide_eq_false (by omega)]; simp
  · rw [if_neg h1, decide_eq_true (by omega : k ≤ j)]
    by_cases h2 : j = k
    · subst h2; simp
    · obtain ⟨d, rfl⟩ : ∃ d, j = k + (d + 1) := ⟨j - k - 1, by omega⟩
      rw [Nat.add_sub_cancel_left, decide_eq_true h2, Nat.testBit_succ, Nat.testBit_succ]
      have e1 : (2 * m + 1) / 2 = m := by omega
      have e2 : 2 * m / 2 = m := by omega
      rw [e1, e2]
      simp
/-- the lowest bit, then the others -/
theorem bl_low (w k m : Nat) (hw : w = 2 ^ k * (2 * m + 1)) (hk : k < 64) : bl w = k :: bl (w &&& (w - 1)) := by
  have hb : ∀ j, (w &&& (w - 1)).testBit j = (w.testBit j && decide (j ≠ k)) := fun j => by rw [hw]; exact low_and k m j
  have h0 : ∀ j, w.testBit j = true → k ≤ j := fun j hj => by
    rw [hw, low_bits] at hj
    simp only [Bool.and_eq_true, decide_eq_true_eq] at hj
    exact hj.1
  have h1 : w.testBit k = true := by rw [hw, low_bits]; simp
  refine rise_one _ _ (bl_rise w) ?_ fun x => ?_
  · rw [List.pairwise_cons]
    refine ⟨fun x hx => ?_, bl_rise _⟩
    rw [mem_bl, hb] at hx
    simp only [Bool.and_eq_true, decide_eq_true_eq] at hx
    have := h0 x hx.2.1
    omega
  · rw [List.mem_cons, mem_bl, mem_bl, hb]
    simp only [Bool.and_eq_true, decide_eq_true_eq]
    constructor
    · rintro ⟨h2, h3⟩
      by_cases e : x = k
      · exact .inl e
      · exact .inr ⟨h2, h3, e⟩
    · rintro (rfl | ⟨h2, h3, _⟩)
      · exact ⟨hk, h1⟩
      · exact ⟨h2, h3⟩
/-- a set of places in words of 64 bits -/
def memW (W : List Nat) (p : Nat) : Bool := (W.getD (p / 64) 0).testBit (p % 64)
/-- all of its places, in order -/
def placesW : List Nat → Nat → List Nat
  | [], _ => []
  | w :: W, i => (bl w).map (64 * i + ·) ++ placesW W (i + 1)
theorem mem_placesW : ∀ (W : List Nat) (i p : Nat), p ∈ placesW W i ↔ 64 * i ≤ p ∧ memW W (p - 64 * i) = true
  | [], i, p => by simp [placesW, memW]
  | w :: W, i, p => by
    rw [placesW, List.mem_append, List.mem_map, mem_placesW W (i + 1) p]
    constructor
    · rintro (⟨a, ha, rfl⟩ | ⟨h1, h2⟩)
      · rw [mem_bl] at ha
        refine ⟨by omega, ?_⟩
        unfold memW
        rw [Nat.add_sub_cancel_left, Nat.div_eq_of_lt ha.1, Nat.mod_eq_of_lt ha.1]
        exact ha.2
      · refine ⟨by omega, ?_⟩
        unfold memW at h2 ⊢
        have e1 : (p - 64 * i) / 64 = (p - 64 * (i + 1)) / 64 + 1 := by omega
        have e2 : (p - 64 * i) % 64 = (p - 64 * (i + 1)) % 64 := by omega
        rw [e1, e2]
        exact h2
    · rintro ⟨h1, h2⟩
      unfold memW at h2
      by_cases h : p < 64 * (i + 1)
      · have e1 : (p - 64 * i) / 64 = 0 := by omega
        have e2 : (p - 64 * i) % 64 = p - 64 * i := by omega
        rw [e1, e2] at h2
        exact .inl ⟨p - 64 * i, mem_bl.2 ⟨by omega, h2⟩, by omega⟩
      · refine .inr ⟨by omega, ?_⟩
        unfold memW
        have e1 : (p - 64 * i) / 64 = (p - 64 * (i + 1)) / 64 + 1 := by omega
        have e2 : (p - 64 * i) % 64 = (p - 64 * (i + 1)) % 64 := by omega
        rw [e1, e2] at h2
        exact h2
end Go.Proofs.YtphjbbbnbmafnabGreatDoor.RxM
