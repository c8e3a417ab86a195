/-
  The document's way of finding where ways lead, without the program: letters with which texts begin and end, spots, each once.
-/
import Derived.Test.YtphjbbbnbmafnabGreatDoorRxW
namespace Go.Proofs.YtphjbbbnbmafnabGreatDoor.RxM
open Rx
/-- the places at which texts begin, and end, as lists -/
def firsts : Rx → Nat → List Nat
  | void, _ => [] | eps, _ => []
  | sym _, k => [k]
  | star t, k => firsts t k
  | cat a b, k => firsts a k ++ (if nul a then firsts b (k + size a) else [])
  | alt a b, k => firsts a k ++ firsts b (k + size a)
def lasts : Rx → Nat → List Nat
  | void, _ => [] | eps, _ => []
  | sym _, k => [k]
  | star t, k => lasts t k
  | cat a b, k => (if nul b then lasts a k else []) ++ lasts b (k + size a)
  | alt a b, k => lasts a k ++ lasts b (k + size a)
theorem mem_firsts : ∀ (t : Rx) (k p : Nat), p ∈ firsts t k ↔ fst t k p = true
  | void, _, _ => by simp [firsts, fst]
  | eps, _, _ => by simp [firsts, fst]
  | sym _, _, _ => by simp [firsts, fst]
  | star t, k, p => mem_firsts t k p
  | cat a b, k, p => by
    simp only [firsts, fst, List.mem_append, Bool.or_eq_true, Bool.and_eq_true]
    rw [mem_firsts a k p]
    cases nul a <;> simp [mem_firsts b]
  | alt a b, k, p => by
    simp only [firsts, fst, List.mem_append, Bool.or_eq_true]
    rw [mem_firsts a k p, mem_firsts b]
theorem mem_lasts : ∀ (t : Rx) (k p : Nat), p ∈ lasts t k ↔ lst t k p = true
  | void, _, _ => by simp [lasts, lst]
  | eps, _, _ => by simp [lasts, lst]
  | sym _, _, _ => by simp [lasts, lst]
  | star t, k, p => mem_lasts t k p
  | cat a b, k, p => by
    simp only [lasts, lst, List.mem_append, Bool.or_eq_true, Bool.and_eq_true]
    rw [mem_lasts b]
    cases nul b <;> simp [mem_lasts a, or_comm]
  | alt a b, k, p => by
    simp only [lasts, lst, List.mem_append, Bool.or_eq_true]
    rw [mem_lasts a k p, mem_lasts b]
theorem firsts_len : ∀ (t : Rx) (k : Nat), (firsts t k).length ≤ size t
  | void, _ => by simp [firsts, size]
  | eps, _ => by simp [firsts, size]
  | sym _, _ => by simp [firsts, size]
  | star t, k => firsts_len t k
  | cat a b, k => by
    have h1 := firsts_len a k
    have h2 := firsts_len b (k + size a)
    simp only [firsts, size, List.length_append]
    split <;> simp <;> omega
  | alt a b, k => by
    have h1 := firsts_len a k
    have h2 := firsts_len b (k + size a)
    simp only [firsts, size, List.length_append]
    omega
theorem lasts_len : ∀ (t : Rx) (k : Nat), (lasts t k).length ≤ size t
  | void, _ => by simp [lasts, size]
  | eps, _ => by simp [lasts, size]
  | sym _, _ => by simp [lasts, size]
  | star t, k => lasts_len t k
  | cat a b, k => by
    have h1 := lasts_len a k
    have h2 := lasts_len b (k + size a)
    simp only [lasts, size, List.length_append]
    split <;> simp <;> omega
  | alt a b, k => by
    have h1 := lasts_len a k
    have h2 := lasts_len b (k + size a)
    simp only [lasts, size, List.length_append]
    omega
/-- the document's: the beginning stands behind all letters -/
def nx (t : Rx) (p q : Nat) : Bool := if p = size t then fst t 0 q else nxt t 0 p q
section
variable (E : Nat → Nat → Nat → Prop) (t : Rx) (u : Nat)
/-- spots, each once; i: so many of them are gone on from; X: what is still to be done -/
structure Bfs (spots : List (Nat × Nat)) (seen : Nat → Nat → Bool) (i : Nat) (X : Nat → Nat → Nat → Nat → Nat → Prop) : Prop where
  zero : spots[0]? = some (size t, u)
  sound : ∀ q v, seen q v = true → Way E t 0 u q v
  here : ∀ q v, seen q v = true → (q, v) ∈ spots
  there : ∀ x ∈ spots, x = (size t, u) ∨ seen x.1 x.2 = true
  closed : ∀ j p m, j < i → spots[j]? = some (p, m) → ∀ q c v, nx t p q = true → E m c v → takes (lab t 0 q) c = true → seen q v = true ∨ X p m q c v
end
variable {E : Nat → Nat → Nat → Prop} {t : Rx} {u : Nat}
theorem Bfs.way {spots : List (Nat × Nat)} {seen : Nat → Nat → Bool} {i : Nat} {X : Nat → Nat → Nat → Nat → Nat → Prop} (h : Bfs E t u spots seen i X) {p m q c v : Nat} (hs : (p, m) ∈ spots) (hn : nx t p q = true) (he : E m c v) (ht : takes (lab t 0 q) c = true) : Way E t 0 u q v := by
  rcases h.there _ hs with e | e
  · injection e with e1 e2
    subst e1 e2
    unfold nx at hn
    rw [if_pos rfl] at hn
    exact .one hn ⟨c, ht, he⟩
  · have hw := h.sound _ _ e
    have := hw.in
    unfold nx at hn
    rw [if_neg (by omega)] at hn
    exact .more hw hn ⟨c, ht, he⟩
theorem bfs_end {spots : List (Nat × Nat)} {seen : Nat → Nat → Bool} (h : Bfs E t u spots seen spots.length (fun _ _ _ _ _ => False)) (q v : Nat) : seen q v = true ↔ Way E t 0 u q v := by
  refine ⟨h.sound q v, fun hw => ?_⟩
  induction hw with
  | @one p v h1 h2 =>
    obtain ⟨c, hc, he⟩ := h2
    exact (h.closed 0 (size t) u (List.getElem?_eq_some_iff.1 h.zero).1 h.zero p c v (by unfold nx; rw [if_pos rfl]; exact h1) he hc).resolve_right id
  | @more p q m v hw h1 h2 ih =>
    obtain ⟨c, hc, he⟩ := h2
    obtain ⟨j, hj⟩ := List.getElem?_of_mem (h.here _ _ ih)
    have := hw.in
    exact (h.closed j p m (List.getElem?_eq_some_iff.1 hj).1 hj q c v (by unfold nx; rw [if_neg (by omega)]; exact h1) he hc).resolve_right id
/-- a new spot -/
theorem bfs_new {spots : List (Nat × Nat)} {seen : Nat → Nat → Bool} {i : Nat} {X Y : Nat → Nat → Nat → Nat → Nat → Prop} (h : Bfs E t u spots seen i X) (hi : i ≤ spots.length) (q v : Nat) (hw : Way E t 0 u q v) (hX : ∀ p m q1 c v1, X p m q1 c v1 → (q1 = q ∧ v1 = v) ∨ Y p m q1 c v1) :
    Bfs E t u (spots ++ [(q, v)]) (upd seen q fun x => seen q x || x == v) i Y := by
  have mono : ∀ q1 x, seen q1 x = true → upd seen q (fun x => seen q x || x == v) q1 x = true := fun q1 x hx => by
    unfold upd
    split
    · rename_i e; subst e; simp [hx]
    · exact hx
  have new : upd seen q (fun x => seen q x || x == v) q v = true := by unfold upd; simp
  have inv : ∀ q1 x, upd seen q (fun x => seen q x || x == v) q1 x = true → seen q1 x = true ∨ (q1 = q ∧ x = v) := fun q1 x hx => by
    unfold upd at hx
    split at hx
    · rename_i e; subst e
      simp only [Bool.or_eq_true, beq_iff_eq] at hx
      exact hx.elim .inl (fun e => .inr ⟨rfl, e⟩)
    · exact .inl hx
  refine ⟨?_, fun q1 x hx => ?_, fun q1 x hx => ?_, fun x hx => ?_, fun j p m hj hs q1 c v1 h1 h2 h3 => ?_⟩
  · rw [List.getElem?_append_left (List.getElem?_eq_some_iff.1 h.zero).1]; exact h.zero
  · rcases inv q1 x hx with e | ⟨rfl, rfl⟩
    · exact h.sound _ _ e
    · exact hw
  · rcases inv q1 x hx with e | ⟨rfl, rfl⟩
    · exact List.mem_append.2 (.inl (h.here _ _ e))
    · simp
  · rcases List.mem_append.1 hx with e | e
    · rcases h.there x e with e | e
      · exact .inl e
      · exact .inr (mono _ _ e)
    · simp only [List.mem_singleton] at e
      subst e
      exact .inr new
  · rw [List.getElem?_append_left (by omega)] at hs
    rcases h.closed j p m hj hs q1 c v1 h1 h2 h3 with e | e
    · exact .inl (mono _ _ e)
    · rcases hX p m q1 c v1 e with ⟨rfl, rfl⟩ | e
      · exact .inl new
      · exact .inr e
theorem bfs_same {spots : List (Nat × Nat)} {seen : Nat → Nat → Bool} {i : Nat} {X Y : Nat → Nat → Nat → Nat → Nat → Prop} (h : Bfs E t u spots seen i X) (hX : ∀ p m q c v, nx t p q = true → E m c v → takes (lab t 0 q) c = true → X p m q c v → seen q v = true ∨ Y p m q c v) : Bfs E t u spots seen i Y :=
  ⟨h.zero, h.sound, h.here, h.there, fun j p m hj hs q c v h1 h2 h3 => (h.closed j p m hj hs q c v h1 h2 h3).elim .inl (hX p m q c v h1 h2 h3)⟩
/-- the next spot is taken -/
theorem bfs_next {spots : List (Nat × Nat)} {seen : Nat → Nat → Bool} {i p m : Nat} (h : Bfs E t u spots seen i (fun _ _ _ _ _ => False)) (hs : spots[i]? = some (p, m)) :
    Bfs E t u spots seen (i + 1) (fun p1 m1 q c v => p1 = p ∧ m1 = m ∧ nx t p q = true ∧ E m c v ∧ takes (lab t 0 q) c = true) :=
  ⟨h.zero, h.sound, h.here, h.there, fun j p1 m1 hj hs1 q c v h1 h2 h3 => by
    by_cases e : j = i
    · subst e
      rw [hs] at hs1
      injection hs1 with e
      injection e with e1 e2
      subst e1 e2
      exact .inr ⟨rfl, rfl, h1, h2, h3⟩
    · exact .inl ((h.closed j p1 m1 (by omega) hs1 q c v h1 h2 h3).resolve_right id)⟩
theorem bfs_start : Bfs E t u [(size t, u)] (fun _ _ => false) 0 (fun _ _ _ _ _ => False) :=
  ⟨rfl, fun _ _ h => by simp at h, fun _ _ h => by simp at h, fun x hx => by simp at hx; exact .inl hx, fun j _ _ h => by omega⟩
/-- to which nodes ways lead -/
theorem bfs_rel {v : Nat} : ((v = u ∧ nul t = true) ∨ ∃ p, p ∈ lasts t 0 ∧ Way E t 0 u p v) ↔ rel E t u v := by
  rw [way_rel t 0 u v]
  constructor
  · rintro (⟨rfl, h⟩ | ⟨p, hp, hw⟩)
    · exact .inl ⟨h, rfl⟩
    · exact .inr ⟨p, hw, (mem_lasts t 0 p).1 hp⟩
  · rintro (⟨h, rfl⟩ | ⟨p, hw, hl⟩)
    · exact .inl ⟨rfl, h⟩
    · exact .inr ⟨p, (mem_lasts t 0 p).2 hl, hw⟩
end Go.Proofs.YtphjbbbnbmafnabGreatDoor.RxM
