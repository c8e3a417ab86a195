/-
  All ways at once: what is seen, what is not gone on from yet, which nodes wait; that it ends, and what it finds: without the program.
-/
import Derived.Test.YtphjbbbnbmafnabGreatDoorRxM
namespace Go.Proofs.YtphjbbbnbmafnabGreatDoor.RxM
open Rx
section
variable (bh : Nat → Nat → Bool) (tk : Nat → Nat → Bool) (E : Nat → Nat → Nat → Prop) (u : Nat)
/-- a place of the expression and the node to which a way leads that stands there -/
inductive Rc : Nat → Nat → Prop
  | start : Rc 0 u
  | more {p q m c v : Nat} : Rc p m → bh p q = true → E m c v → tk c q = true → Rc q v
/-- what is known of all ways: seen, not gone on from yet, the nodes that wait; X: what is still to be done -/
structure Inv (n : Nat) (seen fresh : Nat → Nat → Bool) (wait : List Nat) (X : Nat → Nat → Nat → Nat → Prop) : Prop where
  start : seen u 0 = true
  sound : ∀ v p, seen v p = true → Rc bh tk E u p v
  closed : ∀ m p, seen m p = true → fresh m p = false → ∀ q c v, bh p q = true → E m c v → tk c q = true → seen v q = true ∨ X m p c v
  sub : ∀ v p, fresh v p = true → seen v p = true
  wt : ∀ v, v ∈ wait ↔ ∃ p, fresh v p = true
  nodup : wait.Nodup
  lt : ∀ v ∈ wait, v < n
end
variable {bh : Nat → Nat → Bool} {tk : Nat → Nat → Bool} {E : Nat → Nat → Nat → Prop} {u : Nat}
def upd (f : Nat → Nat → Bool) (v : Nat) (g : Nat → Bool) : Nat → Nat → Bool := fun x p => if x = v then g p else f x p
theorem inv_end {n : Nat} {seen fresh : Nat → Nat → Bool} (h : Inv bh tk E u n seen fresh [] (fun _ _ _ _ => False)) (v p : Nat) : seen v p = true ↔ Rc bh tk E u p v := by
  refine ⟨h.sound v p, fun hr => ?_⟩
  have hf : ∀ x y, fresh x y = false := fun x y => by
    cases e : fresh x y with
    | false => rfl
    | true => exact absurd ((h.wt x).2 ⟨y, e⟩) (by simp)
  induction hr with
  | start => exact h.start
  | more _ h1 h2 h3 ih => exact (h.closed _ _ ih (hf _ _) _ _ _ h1 h2 h3).resolve_right id
/-- a way comes to a node, with nothing new -/
theorem inv_none {n : Nat} {seen fresh : Nat → Nat → Bool} {wait : List Nat} {X Y : Nat → Nat → Nat → Nat → Prop} (h : Inv bh tk E u n seen fresh wait X) (hX : ∀ m p q c v, seen m p = true → fresh m p = false → bh p q = true → E m c v → tk c q = true → X m p c v → seen v q = true ∨ Y m p c v) : Inv bh tk E u n seen fresh wait Y :=
  ⟨h.start, h.sound, fun m p h1 h2 q c v h3 h4 h5 => (h.closed m p h1 h2 q c v h3 h4 h5).elim .inl (hX m p q c v h1 h2 h3 h4 h5), h.sub, h.wt, h.nodup, h.lt⟩
/-- a way comes to a node, with something new -/
theorem inv_come {n : Nat} {seen fresh : Nat → Nat → Bool} {wait wait' : List Nat} {X Y : Nat → Nat → Nat → Nat → Prop} (h : Inv bh tk E u n seen fresh wait X) (v : Nat) (at_ : Nat → Bool) (hv : v < n) (hr : ∀ q, at_ q = true → Rc bh tk E u q v) (hnew : ∃ q, at_ q = true ∧ seen v q = false)
    (b : Bool) (hb : b = true ↔ ∀ p, fresh v p = false) (hw : wait' = if b = true then wait ++ [v] else wait)
    (hX : ∀ m p q c v1, bh p q = true → tk c q = true → E m c v1 → X m p c v1 → (v1 = v ∧ at_ q = true) ∨ Y m p c v1) :
    Inv bh tk E u n (upd seen v fun p => seen v p || at_ p) (upd fresh v fun p => fresh v p || (at_ p && !seen v p)) wait' Y := by
  have mono : ∀ x p, seen x p = true → upd seen v (fun p => seen v p || at_ p) x p = true := fun x p hp => by
    unfold upd
    split
    · rename_i e; subst e; simp [hp]
    · exact hp
  refine ⟨mono _ _ h.start, fun x p hp => ?_, fun m p h1 h2 q c v1 h3 h4 h5 => ?_, fun x p hp => ?_, fun x => ?_, ?_, ?_⟩
  · unfold upd at hp
    split at hp
    · rename_i e; subst e
      simp only [Bool.or_eq_true] at hp
      exact hp.elim (h.sound _ _) (hr _)
    · exact h.sound _ _ hp
  · have h6 : seen m p = true ∧ fresh m p = false := by
      unfold upd at h1 h2
      split at h1
      · rename_i e; subst e
        rw [if_pos rfl] at h2
        simp only [Bool.or_eq_true] at h1
        simp only [Bool.or_eq_false_iff, Bool.and_eq_false_iff, Bool.not_eq_false'] at h2
        refine ⟨h1.elim id fun ha => h2.2.elim (fun hb => by rw [ha] at hb; simp at hb) id, h2.1⟩
      · rename_i e
        rw [if_neg e] at h2
        exact ⟨h1, h2⟩
    rcases h.closed m p h6.1 h6.2 q c v1 h3 h4 h5 with h7 | h7
    · exact .inl (mono _ _ h7)
    · rcases hX m p q c v1 h3 h5 h4 h7 with ⟨rfl, h8⟩ | h8
      · exact .inl (by unfold upd; rw [if_pos rfl]; simp [h8])
      · exact .inr h8
  · unfold upd at hp ⊢
    split at hp
    · rename_i e; subst e
      rw [if_pos rfl]
      simp only [Bool.or_eq_true, Bool.and_eq_true] at hp ⊢
      exact hp.elim (fun h1 => .inl (h.sub _ _ h1)) (fun h1 => .inr h1.1)
    · rename_i e; rw [if_neg e]; exact h.sub _ _ hp
  · obtain ⟨q, hq1, hq2⟩ := hnew
    by_cases e : x = v
    · subst e
      constructor
      · intro _
        exact ⟨q, by unfold upd; rw [if_pos rfl]; simp [hq1, hq2]⟩
      · intro _
        rw [hw]
        split
        · simp
        · rename_i hn
          rw [h.wt]
          refine Classical.byContradiction fun hc => hn (hb.2 fun p => ?_)
          cases e : fresh x p with
          | false => rfl
          | true => exact absurd ⟨p, e⟩ hc
    · have e1 : (x ∈ wait') ↔ x ∈ wait := by
        rw [hw]; split
        · simp [e]
        · exact Iff.rfl
      rw [e1, h.wt]
      unfold upd
      simp only [if_neg e]
  · rw [hw]
    split
    · rename_i hn
      refine List.nodup_append.2 ⟨h.nodup, by simp, ?_⟩
      intro a ha b hb
      simp only [List.mem_singleton] at hb
      subst hb
      intro e
      subst e
      obtain ⟨p, hp⟩ := (h.wt a).1 ha
      rw [hb.1 hn p] at hp
      simp at hp
    · exact h.nodup
  · intro x hx
    rw [hw] at hx
    split at hx
    · simp only [List.mem_append, List.mem_singleton] at hx
      exact hx.elim (h.lt x) (fun e => by rw [e]; exact hv)
    · exact h.lt x hx
/-- a node that waits is taken -/
theorem inv_pop {n : Nat} {seen fresh : Nat → Nat → Bool} {wait : List Nat} {x : Nat} (h : Inv bh tk E u n seen fresh (wait ++ [x]) (fun _ _ _ _ => False)) :
    Inv bh tk E u n seen (upd fresh x fun _ => false) wait (fun m p c v => m = x ∧ fresh x p = true ∧ E x c v) := by
  have hnd := List.nodup_append.1 h.nodup
  have hx : x ∉ wait := fun hm => hnd.2.2 x hm x (by simp) rfl
  refine ⟨h.start, h.sound, fun m p h1 h2 q c v h3 h4 h5 => ?_, fun v p hp => ?_, fun v => ?_, hnd.1, fun v hv => h.lt v (by simp [hv])⟩
  · by_cases e : m = x
    · subst e
      cases hf : fresh m p with
      | true => exact .inr ⟨rfl, rfl, h4⟩
      | false => exact .inl ((h.closed m p h1 hf q c v h3 h4 h5).resolve_right id)
    · unfold upd at h2
      rw [if_neg e] at h2
      exact .inl ((h.closed m p h1 h2 q c v h3 h4 h5).resolve_right id)
  · unfold upd at hp
    split at hp
    · simp at hp
    · exact h.sub v p hp
  · by_cases e : v = x
    · subst e
      refine ⟨fun hv => absurd hv hx, fun ⟨p, hp⟩ => ?_⟩
      unfold upd at hp
      rw [if_pos rfl] at hp
      simp at hp
    · unfold upd
      simp only [if_neg e]
      rw [← h.wt v]
      simp [e]
/-- how much is not seen -/
def unseen (seen : Nat → Nat → Bool) (n P : Nat) : Nat := ((List.range n).map fun v => ((List.range P).filter fun p => !seen v p).length).sum
theorem filt_le (f g : Nat → Bool) (l : List Nat) (h : ∀ p ∈ l, f p = true → g p = true) : (l.filter f).length ≤ (l.filter g).length := by
  induction l with
  | nil => simp
  | cons a l ih =>
    have := ih fun p hp => h p (by simp [hp])
    simp only [List.filter_cons]
    cases hf : f a with
    | true => rw [h a (by simp) hf]; simp; exact this
    | false =>
      cases g a with
      | true => simp; omega
      | false => simpa using this
theorem filt_lt (f g : Nat → Bool) (l : List Nat) (h : ∀ p ∈ l, f p = true → g p = true) (x : Nat) (hx : x ∈ l) (hf : f x = false) (hg : g x = true) : (l.filter f).length < (l.filter g).length := by
  induction l with
  | nil => simp at hx
  | cons a l ih =>
    simp only [List.filter_cons]
    rcases List.mem_cons.1 hx with e | e
    · subst e
      rw [hf, hg]
      simp only [if_true]
      have := filt_le f g l fun p hp => h p (by simp [hp])
      simp; omega
    · have := ih (fun p hp => h p (by simp [hp])) e
      cases hfa : f a with
      | true => rw [h a (by simp) hfa]; simp; exact this
      | false =>
        cases g a with
        | true => simp; omega
        | false => simpa using this
theorem sum_le (f g : Nat → Nat) (l : List Nat) (h : ∀ v ∈ l, f v ≤ g v) : (l.map f).sum ≤ (l.map g).sum := by
  induction l with
  | nil => simp
  | cons a l ih =>
    have := ih fun v hv => h v (by simp [hv])
    have := h a (by simp)
    simp; omega
theorem sum_lt (f g : Nat → Nat) (l : List Nat) (h : ∀ v ∈ l, f v ≤ g v) (x : Nat) (hx : x ∈ l) (hl : f x < g x) : (l.map f).sum < (l.map g).sum := by
  induction l with
  | nil => simp at hx
  | cons a l ih =>
    rcases List.mem_cons.1 hx with e | e
    · subst e
      have := sum_le f g l fun v hv => h v (by simp [hv])
      simp; omega
    · have := ih (fun v hv => h v (by simp [hv])) e
      have := h a (by simp)
      simp; omega
theorem unseen_le {seen seen' : Nat → Nat → Bool} {n P : Nat} (h : ∀ v p, seen v p = true → seen' v p = true) : unseen seen' n P ≤ unseen seen n P := by
  unfold unseen
  refine sum_le _ _ _ fun v _ => filt_le _ _ _ fun p _ hp => ?_
  cases e : seen v p with
  | false => rfl
  | true => rw [h v p e] at hp; simp at hp
theorem unseen_lt {seen seen' : Nat → Nat → Bool} {n P : Nat} (h : ∀ v p, seen v p = true → seen' v p = true) (v p : Nat) (hv : v < n) (hp : p < P) (h0 : seen v p = false) (h1 : seen' v p = true) : unseen seen' n P < unseen seen n P := by
  unfold unseen
  have hh : ∀ v p, (!seen' v p) = true → (!seen v p) = true := fun v p hp => by
    cases e : seen v p with
    | false => rfl
    | true => rw [h v p e] at hp; simp at hp
  exact sum_lt _ _ _ (fun v _ => filt_le _ _ _ fun p _ => hh v p) v (List.mem_range.2 hv) (filt_lt _ _ _ (fun p _ => hh v p) p (List.mem_range.2 hp) (by simp [h1]) (by simp [h0]))
/-- the program's places: 0 stands ahead of all; the labels by what takes them -/
def bh0 (t : Rx) (p q : Nat) : Bool := if p = 0 then fst t 1 q else nxt t 1 p q
def tk0 (t : Rx) (c q : Nat) : Bool := decide (1 ≤ q) && decide (q < 1 + size t) && takes (lab t 1 q) c
def en0 (t : Rx) (p : Nat) : Bool := lst t 1 p || (nul t && p == 0)
theorem bh0_in {t : Rx} {p q : Nat} (h : bh0 t p q = true) : 1 ≤ q ∧ q < 1 + size t := by
  unfold bh0 at h
  split at h
  · exact fst_in _ _ _ h
  · exact (nxt_in _ _ _ _ h).2
theorem rc_way {t : Rx} {p v : Nat} (h : Rc (bh0 t) (tk0 t) E u p v) : (p = 0 ∧ v = u) ∨ (1 ≤ p ∧ Way E t 1 u p v) := by
  induction h with
  | start => exact .inl ⟨rfl, rfl⟩
  | @more p q m c v _ h1 h2 h3 ih =>
    have hq := bh0_in h1
    have hg : Go E (lab t 1 q) m v := ⟨c, by unfold tk0 at h3; simp only [Bool.and_eq_true] at h3; exact h3.2, h2⟩
    rcases ih with ⟨rfl, rfl⟩ | ⟨hp, hw⟩
    · exact .inr ⟨hq.1, .one h1 hg⟩
    · unfold bh0 at h1
      rw [if_neg (by omega)] at h1
      exact .inr ⟨hq.1, .more hw h1 hg⟩
theorem way_rc {t : Rx} {p v : Nat} (h : Way E t 1 u p v) : Rc (bh0 t) (tk0 t) E u p v := by
  induction h with
  | @one p v h1 h2 =>
    obtain ⟨c, hc, he⟩ := h2
    have := fst_in _ _ _ h1
    exact .more .start (p := 0) (by unfold bh0; rw [if_pos rfl]; exact h1) he (by unfold tk0; simp [hc]; omega)
  | @more p q m v hw h1 h2 ih =>
    obtain ⟨c, hc, he⟩ := h2
    have := nxt_in _ _ _ _ h1
    exact .more ih (by unfold bh0; rw [if_neg (by omega)]; exact h1) he (by unfold tk0; simp [hc]; omega)
/-- to which nodes ways lead -/
theorem rc_rel {t : Rx} {v : Nat} : (∃ p, Rc (bh0 t) (tk0 t) E u p v ∧ en0 t p = true) ↔ rel E t u v := by
  rw [way_rel t 1 u v]
  constructor
  · rintro ⟨p, hr, he⟩
    unfold en0 at he
    simp only [Bool.or_eq_true, Bool.and_eq_true, beq_iff_eq] at he
    rcases rc_way hr with ⟨rfl, rfl⟩ | ⟨hp, hw⟩
    · rcases he with he | he
      · have := lst_in _ _ _ he; omega
      · exact .inl ⟨he.1, rfl⟩
    · rcases he with he | he
      · exact .inr ⟨p, hw, he⟩
      · omega
  · rintro (⟨hn, rfl⟩ | ⟨p, hw, hl⟩)
    · exact ⟨0, .start, by unfold en0; simp [hn]⟩
    · exact ⟨p, way_rc hw, by unfold en0; simp [hl]⟩
end Go.Proofs.YtphjbbbnbmafnabGreatDoor.RxM
