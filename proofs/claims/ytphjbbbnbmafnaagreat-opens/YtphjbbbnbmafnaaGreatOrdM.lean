/-
  Two lists of edges in order laid into one, each once: without the program. No condition.
-/
import Derived.Test.YtphjbbbnbmafnaaGreatGMath
namespace Go.Proofs.YtphjbbbnbmafnaaGreat.Gm

/-- x is put behind, if it is not there as the last one -/
def push (L : List E3) (x : E3) : List E3 := if L.getLast? = some x then L else L ++ [x]
theorem push_mem (L : List E3) (x y : E3) : y ∈ push L x ↔ y ∈ L ∨ y = x := by
  unfold push
  split
  · rename_i h
    have hx : x ∈ L := List.mem_of_getLast? h
    constructor
    · exact .inl
    · intro h
      rcases h with h | h
      · exact h
      · rw [h]; exact hx
  · simp
theorem push_strict {L : List E3} {x : E3} (hL : Strict L) (hx : ∀ z ∈ L, ltE x z = false) : Strict (push L x) := by
  unfold push
  split
  · exact hL
  · rename_i hne
    refine List.pairwise_append.2 ⟨hL, List.pairwise_singleton _ _, fun a ha b hb => ?_⟩
    have hb' : b = x := by simpa using hb
    subst hb'
    have h1 := hx a ha
    cases hc : ltE a b with
    | true => rfl
    | false =>
      exfalso
      have e := ltE_one a b hc h1
      subst e
      apply hne
      -- a is the last one: whatever stands behind it would be ahead of none
      cases hl : L.getLast? with
      | none =>
        rw [List.getLast?_eq_none_iff] at hl
        rw [hl] at ha; cases ha
      | some z =>
        obtain ⟨ini, rfl⟩ : ∃ ini, L = ini ++ [z] := List.getLast?_eq_some_iff.1 hl
        rcases List.mem_append.1 ha with h | h
        · have h2 := (List.pairwise_append.1 hL).2.2 a h z (by simp)
          have h3 := hx z (by simp)
          rw [h3] at h2; cases h2
        · have : a = z := by simpa using h
          rw [this]
theorem push_len (L : List E3) (x : E3) : (push L x).length ≤ L.length + 1 := by
  unfold push
  split
  · omega
  · simp
structure MInv (A B : List E3) (i k : Nat) (L : List E3) : Prop where
  strict : Strict L
  mem : ∀ x, x ∈ L ↔ x ∈ A.take i ∨ x ∈ B.take k
  a : ∀ x ∈ L, ∀ y ∈ A.drop i, ltE y x = false
  b : ∀ x ∈ L, ∀ y ∈ B.drop k, ltE y x = false
  len : L.length ≤ i + k
theorem MInv.start (A B : List E3) : MInv A B 0 0 [] := ⟨List.Pairwise.nil, fun x => by simp, (fun x h => by cases h), (fun x h => by cases h), Nat.zero_le _⟩
theorem drop_cons {A : List E3} {i : Nat} {x : E3} (h : A[i]? = some x) : A.drop i = x :: A.drop (i + 1) := by
  obtain ⟨hi, rfl⟩ := List.getElem?_eq_some_iff.1 h
  exact List.drop_eq_getElem_cons hi
theorem take_snocG {A : List E3} {i : Nat} {x : E3} (h : A[i]? = some x) : A.take (i + 1) = A.take i ++ [x] := by rw [List.take_add_one, h]; rfl
theorem strict_drop {A : List E3} (hA : Strict A) {i : Nat} {x : E3} (h : A[i]? = some x) : ∀ y ∈ A.drop (i + 1), ltE x y = true := by
  have h2 : Strict (A.drop i) := List.Pairwise.sublist (List.drop_sublist i A) hA
  rw [drop_cons h] at h2
  exact (List.pairwise_cons.1 h2).1
theorem lt_asym {a b : E3} (h : ltE a b = true) : ltE b a = false := by
  cases hc : ltE b a with
  | false => rfl
  | true => have := ltE_trans _ _ _ h hc; rw [ltE_irrefl] at this; cases this
theorem MInv.left {A B : List E3} {i k : Nat} {L : List E3} (h : MInv A B i k L) (hA : Strict A) (hB : Strict B) {x : E3} (hx : A[i]? = some x) (hk : B.length ≤ k ∨ ∃ y, B[k]? = some y ∧ ltE x y = true) : MInv A B (i + 1) k (push L x) := by
  have hxd : x ∈ A.drop i := by rw [drop_cons hx]; exact List.mem_cons_self ..
  refine ⟨push_strict h.strict (fun z hz => h.a z hz x hxd), fun y => ?_, fun z hz y hy => ?_, fun z hz y hy => ?_, by have := push_len L x; have := h.len; omega⟩
  · rw [push_mem, h.mem, take_snocG hx]
    simp only [List.mem_append, List.mem_singleton]
    constructor
    · rintro ((h | h) | h)
      · exact .inl (.inl h)
      · exact .inr h
      · exact .inl (.inr h)
    · rintro ((h | h) | h)
      · exact .inl (.inl h)
      · exact .inr h
      · exact .inl (.inr h)
  · rcases (push_mem L x z).1 hz with h1 | h1
    · exact h.a z h1 y (by rw [drop_cons hx]; exact List.mem_cons_of_mem _ hy)
    · rw [h1]; exact lt_asym (strict_drop hA hx y hy)
  · rcases (push_mem L x z).1 hz with h1 | h1
    · exact h.b z h1 y hy
    · rw [h1]
      rcases hk with hk | ⟨b, hb, hlt⟩
      · rw [List.drop_eq_nil_of_le hk] at hy; cases hy
      · rw [drop_cons hb] at hy
        rcases List.mem_cons.1 hy with e | hy2
        · rw [e]; exact lt_asym hlt
        · exact lt_asym (ltE_trans _ _ _ hlt (strict_drop hB hb y hy2))
theorem MInv.right {A B : List E3} {i k : Nat} {L : List E3} (h : MInv A B i k L) (hA : Strict A) (hB : Strict B) {x : E3} (hx : B[k]? = some x) (hi : A.length ≤ i ∨ ∃ y, A[i]? = some y ∧ ltE y x = false) : MInv A B i (k + 1) (push L x) := by
  have hxd : x ∈ B.drop k := by rw [drop_cons hx]; exact List.mem_cons_self ..
  refine ⟨push_strict h.strict (fun z hz => h.b z hz x hxd), fun y => ?_, fun z hz y hy => ?_, fun z hz y hy => ?_, by have := push_len L x; have := h.len; omega⟩
  · rw [push_mem, h.mem, take_snocG hx]
    simp only [List.mem_append, List.mem_singleton]
    constructor
    · rintro ((h | h) | h)
      · exact .inl h
      · exact .inr (.inl h)
      · exact .inr (.inr h)
    · rintro (h | h | h)
      · exact .inl (.inl h)
      · exact .inl (.inr h)
      · exact .inr h
  · rcases (push_mem L x z).1 hz with h1 | h1
    · exact h.a z h1 y hy
    · rw [h1]
      rcases hi with hi | ⟨b, hb, hlt⟩
      · rw [List.drop_eq_nil_of_le hi] at hy; cases hy
      · rw [drop_cons hb] at hy
        rcases List.mem_cons.1 hy with e | hy2
        · rw [e]; exact hlt
        · cases hc : ltE y x with
          | false => rfl
          | true =>
            have := ltE_trans _ _ _ (strict_drop hA hb y hy2) hc
            rw [hlt] at this; cases this
  · rcases (push_mem L x z).1 hz with h1 | h1
    · exact h.b z h1 y (by rw [drop_cons hx]; exact List.mem_cons_of_mem _ hy)
    · rw [h1]; exact lt_asym (strict_drop hB hx y hy)
theorem MInv.all {A B l : List E3} {L : List E3} (h : MInv A B A.length B.length L) (hm : ∀ x, x ∈ l ↔ x ∈ A ∨ x ∈ B) : L = ordE l :=
  ordE_one l L h.strict (fun x => by rw [h.mem, List.take_length, List.take_length, hm])
theorem ordE_short (l : List E3) (h : l.length < 2) : ordE l = l := by
  match l, h with
  | [], _ => exact ordE_self [] List.Pairwise.nil
  | [a], _ => exact ordE_self [a] (List.pairwise_singleton _ _)
end Go.Proofs.YtphjbbbnbmafnaaGreat.Gm
