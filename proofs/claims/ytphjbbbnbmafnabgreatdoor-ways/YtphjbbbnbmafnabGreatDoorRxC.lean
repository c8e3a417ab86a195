/-
  The expression that was read, as rows of sets; all ways at once, with sets in words: without the program.
-/
import Derived.Test.YtphjbbbnbmafnabGreatDoorRxL
namespace Go.Proofs.YtphjbbbnbmafnabGreatDoor.G
open Go.Proofs.YtphjbbbnbmafnabGreatDoor.RxM Rx

abbrev z4 : S4 := (0, 0, 0, 0)
/-- an expression as the program keeps it -/
structure Ex (t : Rx) (n : Nat) (ss ts : List S4) (en : S4) : Prop where
  len : ss.length = 1 + size t
  tlen : ts.length = n
  bh : ∀ p q, p < ss.length → mem4 (ss.getD p z4) q = bh0 t p q
  tk : ∀ c q, c < n → mem4 (ts.getD c z4) q = tk0 t c q
  es : ∀ q, mem4 en q = en0 t q
  ok1 : ∀ s ∈ ss, ok4 s
  ok2 : ∀ s ∈ ts, ok4 s
  ok3 : ok4 en
/-- the part ahead of all -/
def start4 : P4 := (z4, one4 0, false)
theorem laid_ex {t : Rx} {n : Nat} {ss2 ts2 : List S4} {P : P4} (h : Laid t [z4] (List.replicate n z4) ss2 ts2) (hP : IsPart P t 1) (h1 : ∀ s ∈ linkAll P.1 ss2 (plTo (one4 0).1 (one4 0).2.1 (one4 0).2.2.1 (one4 0).2.2.2 4), ok4 s) (h2 : ∀ s ∈ ts2, ok4 s) :
    Ex t n (linkAll P.1 ss2 (plTo (one4 0).1 (one4 0).2.1 (one4 0).2.2.1 (one4 0).2.2.2 4)) ts2 (join4 start4 P).2.1 := by
  have hl : ss2.length = 1 + size t := h.len
  have hm : ∀ p, p ∈ plTo (one4 0).1 (one4 0).2.1 (one4 0).2.2.1 (one4 0).2.2.2 4 ↔ p = 0 := fun p => by rw [mem_plTo, mem4_one (by decide)]; simp
  refine ⟨by rw [linkAll_len, hl], by rw [h.tlen]; simp, fun p q hp => ?_, fun c q hc => ?_, fun q => ?_, h1, h2, ?_⟩
  · rw [linkAll_len] at hp
    rw [linkAll_get _ _ _ _ _ hp, hP.fs]
    unfold bh0
    by_cases e : p = 0
    · subst e
      have e2 : ss2.getD 0 z4 = z4 := by rw [List.getD_eq_getElem?_getD, h.old 0 (by simp)]; rfl
      rw [e2, mem4_zero, if_pos rfl, decide_eq_true ((hm 0).2 rfl)]
      simp
    · rw [if_neg e, decide_eq_false fun hx => e ((hm p).1 hx), h.nx p q (by simp; omega) hp]
      simp
  · rw [h.tk c q (by simpa using hc)]
    have e2 : (List.replicate n z4).getD c z4 = z4 := by rw [List.getD_eq_getElem?_getD, List.getElem?_replicate, if_pos hc]; rfl
    rw [e2, mem4_zero]
    simp [tk0]
  · unfold join4 start4 en0
    simp only
    rw [hP.em]
    cases nul t
    · simp [hP.ls]
    · simp [mem4_or, hP.ls, mem4_one]
  · unfold join4 start4
    simp only
    split
    · exact ok4_or hP.ok2 (ok4_one 0)
    · exact hP.ok2
/-- sets, without others -/
def wo4 (s t : S4) : S4 := (s.1 &&& (18446744073709551615 - t.1), s.2.1 &&& (18446744073709551615 - t.2.1), s.2.2.1 &&& (18446744073709551615 - t.2.2.1), s.2.2.2 &&& (18446744073709551615 - t.2.2.2))
theorem bit_not (x j : Nat) (hx : x < 18446744073709551616) (hj : j < 64) : (18446744073709551615 - x).testBit j = !x.testBit j := by
  have := Nat.testBit_two_pow_sub_succ (n := 64) (x := x) hx j
  rw [show 2 ^ 64 - (x + 1) = 18446744073709551615 - x by omega] at this
  rw [this, decide_eq_true hj, Bool.true_and]
theorem mem4_wo (s : S4) {t : S4} (ht : ok4 t) (p : Nat) : mem4 (wo4 s t) p = (mem4 s p && !mem4 t p) := by
  have hj : p % 64 < 64 := Nat.mod_lt _ (by decide)
  obtain ⟨t0, t1, t2, t3⟩ := t
  obtain ⟨h0, h1, h2, h3⟩ := ht
  simp only at h0 h1 h2 h3
  unfold mem4 memW wo4
  simp only
  match p / 64 with
  | 0 => simp [Nat.testBit_and, bit_not _ _ h0 hj]
  | 1 => simp [Nat.testBit_and, bit_not _ _ h1 hj]
  | 2 => simp [Nat.testBit_and, bit_not _ _ h2 hj]
  | 3 => simp [Nat.testBit_and, bit_not _ _ h3 hj]
  | i + 4 => simp
def and4 (s t : S4) : S4 := (s.1 &&& t.1, s.2.1 &&& t.2.1, s.2.2.1 &&& t.2.2.1, s.2.2.2 &&& t.2.2.2)
theorem mem4_and (s t : S4) (p : Nat) : mem4 (and4 s t) p = (mem4 s p && mem4 t p) := by
  unfold mem4 memW and4
  simp only
  match p / 64 with
  | 0 => simp [Nat.testBit_and]
  | 1 => simp [Nat.testBit_and]
  | 2 => simp [Nat.testBit_and]
  | 3 => simp [Nat.testBit_and]
  | i + 4 => simp
theorem and_lt64 {a b : Nat} (ha : a < 18446744073709551616) : a &&& b < 18446744073709551616 := Nat.lt_of_le_of_lt Nat.and_le_left ha
theorem ok4_and {s t : S4} (h : ok4 s) : ok4 (and4 s t) := ⟨and_lt64 h.1, and_lt64 h.2.1, and_lt64 h.2.2.1, and_lt64 h.2.2.2⟩
/-- a set is empty when no place is in it -/
theorem zero4 {s : S4} (hs : ok4 s) : s = z4 ↔ ∀ p, mem4 s p = false := by
  constructor
  · rintro rfl p; exact mem4_zero p
  · intro h
    obtain ⟨a, b, c, d⟩ := s
    have key : ∀ (i : Nat) (w : Nat), w < 18446744073709551616 → (∀ j, j < 64 → w.testBit j = false) → i = i → w = 0 := by
      intro i w hw hb _
      refine Nat.eq_of_testBit_eq fun j => ?_
      rw [Nat.zero_testBit]
      by_cases hj : j < 64
      · exact hb j hj
      · exact Nat.testBit_lt_two_pow (Nat.lt_of_lt_of_le (show w < 2 ^ 64 from hw) (Nat.pow_le_pow_right (by decide) (by omega)))
    have hh : ∀ i j, j < 64 → ([a, b, c, d].getD i 0).testBit j = false := fun i j hj => by
      have := h (64 * i + j)
      unfold mem4 memW at this
      rw [show (64 * i + j) / 64 = i by omega, show (64 * i + j) % 64 = j by omega] at this
      exact this
    have e0 := key 0 a hs.1 (fun j hj => hh 0 j hj) rfl
    have e1 := key 1 b hs.2.1 (fun j hj => hh 1 j hj) rfl
    have e2 := key 2 c hs.2.2.1 (fun j hj => hh 2 j hj) rfl
    have e3 := key 3 d hs.2.2.2 (fun j hj => hh 3 j hj) rfl
    rw [e0, e1, e2, e3]
/-- a row of sets, as a function -/
def fn (l : List S4) (v p : Nat) : Bool := mem4 (l.getD v z4) p
theorem fn_set {l : List S4} {v : Nat} (hv : v < l.length) (s : S4) : fn (l.set v s) = upd (fn l) v (mem4 s) := by
  funext x p
  unfold fn upd
  by_cases e : x = v
  · subst e
    rw [if_pos rfl, List.getD_eq_getElem?_getD, List.getElem?_set_self hv]
    rfl
  · rw [if_neg e, List.getD_eq_getElem?_getD, List.getElem?_set_ne fun h => e h.symm, ← List.getD_eq_getElem?_getD]
/-- a way comes to a node -/
def come (a b : List S4) (w : List Nat) (v : Nat) (f : S4) : List S4 × List S4 × List Nat :=
  if f = z4 then (a, b, w) else (a.set v (or4 (a.getD v z4) f), b.set v (or4 (b.getD v z4) f), if b.getD v z4 = z4 then w ++ [v] else w)
section
variable {bh : Nat → Nat → Bool} {tk : Nat → Nat → Bool} {E : Nat → Nat → Nat → Prop} {u : Nat}
/-- what is known of all ways, in sets -/
structure Wk (bh tk : Nat → Nat → Bool) (E : Nat → Nat → Nat → Prop) (u n P : Nat) (a b : List S4) (w : List Nat) (X : Nat → Nat → Nat → Nat → Prop) : Prop where
  inv : Inv bh tk E u n (fn a) (fn b) w X
  la : a.length = n
  lb : b.length = n
  oka : ∀ s ∈ a, ok4 s
  okb : ∀ s ∈ b, ok4 s
  bd : ∀ v p, fn a v p = true → p < P
/-- how much is still to be done -/
def todo (a : List S4) (w : List Nat) (n P : Nat) : Nat := 2 * unseen (fn a) n P + w.length
theorem ok4_at {l : List S4} (h : ∀ s ∈ l, ok4 s) (v : Nat) : ok4 (l.getD v z4) := by
  rw [List.getD_eq_getElem?_getD]
  cases e : l[v]? with
  | none => exact ok4_zero
  | some s => exact h s (List.mem_of_getElem? e)
theorem ok4_set {l : List S4} (h : ∀ s ∈ l, ok4 s) (v : Nat) {x : S4} (hx : ok4 x) : ∀ s ∈ l.set v x, ok4 s := fun s hs => by
  rcases List.mem_or_eq_of_mem_set hs with hs | rfl
  · exact h s hs
  · exact hx
theorem wk_come {n P : Nat} {a b : List S4} {w : List Nat} {X Y : Nat → Nat → Nat → Nat → Prop} (h : Wk bh tk E u n P a b w X) (v : Nat) (hv : v < n) (at_ f : S4) (hf : ok4 f) (hff : ∀ p, mem4 f p = (mem4 at_ p && !fn a v p)) (hr : ∀ q, mem4 at_ q = true → Rc bh tk E u q v) (hP : ∀ q, mem4 at_ q = true → q < P)
    (hX : ∀ m p q c v1, bh p q = true → tk c q = true → E m c v1 → X m p c v1 → (v1 = v ∧ mem4 at_ q = true) ∨ Y m p c v1) :
    Wk bh tk E u n P (come a b w v f).1 (come a b w v f).2.1 (come a b w v f).2.2 Y ∧ todo (come a b w v f).1 (come a b w v f).2.2 n P ≤ todo a w n P := by
  have hva : v < a.length := by rw [h.la]; exact hv
  have hvb : v < b.length := by rw [h.lb]; exact hv
  unfold come
  by_cases hz : f = z4
  · rw [if_pos hz]
    refine ⟨⟨inv_none h.inv fun m p q c v1 _ _ h3 h4 h5 h6 => ?_, h.la, h.lb, h.oka, h.okb, h.bd⟩, Nat.le_refl _⟩
    rcases hX m p q c v1 h3 h5 h4 h6 with ⟨rfl, hq⟩ | hy
    · have := hff q
      rw [hz, mem4_zero, hq] at this
      simp at this
      exact .inl this
    · exact .inr hy
  · rw [if_neg hz]
    have hnew : ∃ q, mem4 at_ q = true ∧ fn a v q = false := by
      refine Classical.byContradiction fun hc => hz ((zero4 hf).2 fun p => ?_)
      cases e : mem4 f p with
      | false => rfl
      | true =>
        rw [hff p] at e
        simp only [Bool.and_eq_true, Bool.not_eq_true'] at e
        exact absurd ⟨p, e⟩ hc
    have ea : (upd (fn a) v fun p => fn a v p || mem4 at_ p) = fn (a.set v (or4 (a.getD v z4) f)) := by
      rw [fn_set hva]
      unfold upd
      funext x p
      simp only [mem4_or, hff]
      split
      · show _ = (fn a v p || _)
        cases fn a v p <;> simp
      · rfl
    have eb : (upd (fn b) v fun p => fn b v p || (mem4 at_ p && !fn a v p)) = fn (b.set v (or4 (b.getD v z4) f)) := by
      rw [fn_set hvb]
      unfold upd
      funext x p
      simp only [mem4_or, hff]
      rfl
    have hi := inv_come h.inv v (mem4 at_) hv hr hnew (decide (b.getD v z4 = z4)) (by rw [decide_eq_true_eq, zero4 (ok4_at h.okb v)]; rfl) (wait' := if b.getD v z4 = z4 then w ++ [v] else w) (by simp only [decide_eq_true_eq]) hX
    rw [ea, eb] at hi
    refine ⟨⟨hi, by simp [h.la], by simp [h.lb], ok4_set h.oka v (ok4_or (ok4_at h.oka v) hf), ok4_set h.okb v (ok4_or (ok4_at h.okb v) hf), fun x p hp => ?_⟩, ?_⟩
    · rw [← ea] at hp
      unfold upd at hp
      split at hp
      · simp only [Bool.or_eq_true] at hp
        exact hp.elim (h.bd _ _) (hP _)
      · exact h.bd _ _ hp
    · obtain ⟨q, hq1, hq2⟩ := hnew
      have hlt : unseen (fn (a.set v (or4 (a.getD v z4) f))) n P < unseen (fn a) n P := by
        rw [← ea]
        refine unseen_lt (fun x p hp => ?_) v q hv (hP q hq1) hq2 ?_
        · unfold upd; split
          · rename_i e; subst e; simp [hp]
          · exact hp
        · unfold upd; rw [if_pos rfl]; simp [hq1]
      unfold todo
      simp only
      split
      · rw [List.length_append, List.length_singleton]; omega
      · omega
theorem ok4_wo {s t : S4} (h : ok4 s) : ok4 (wo4 s t) := ⟨and_lt64 h.1, and_lt64 h.2.1, and_lt64 h.2.2.1, and_lt64 h.2.2.2⟩
theorem wk_pop {n P : Nat} {a b : List S4} {w : List Nat} {x : Nat} (h : Wk bh tk E u n P a b (w ++ [x]) (fun _ _ _ _ => False)) : Wk bh tk E u n P a (b.set x z4) w (fun m p c v => m = x ∧ fn b x p = true ∧ E x c v) ∧ todo a w n P < todo a (w ++ [x]) n P ∧ x < n ∧ (∀ p, fn b x p = true → Rc bh tk E u p x ∧ p < P) := by
  have hx : x < n := h.inv.lt x (by simp)
  have hi := inv_pop h.inv
  have e : (upd (fn b) x fun _ => false) = fn (b.set x z4) := by
    rw [fn_set (by rw [h.lb]; exact hx)]
    congr 1
    funext p
    exact (mem4_zero p).symm
  rw [e] at hi
  refine ⟨⟨hi, h.la, by simp [h.lb], h.oka, ok4_set h.okb x ok4_zero, h.bd⟩, by unfold todo; simp, hx, fun p hp => ?_⟩
  have hs := h.inv.sub x p hp
  exact ⟨h.inv.sound x p hs, h.bd x p hs⟩
theorem wk_start {n P : Nat} (hu : u < n) (hP : 0 < P) : Wk bh tk E u n P ((List.replicate n z4).set u (one4 0)) ((List.replicate n z4).set u (one4 0)) [u] (fun _ _ _ _ => False) := by
  have h0 : fn ((List.replicate n z4).set u (one4 0)) = fun v p => decide (v = u) && (p == 0) := by
    rw [fn_set (by simpa using hu)]
    funext v p
    unfold upd
    by_cases e : v = u
    · rw [if_pos e, mem4_one (by decide)]; simp [e]
    · rw [if_neg e]
      unfold fn
      rw [List.getD_eq_getElem?_getD, List.getElem?_replicate]
      split <;> simp [mem4_zero, e]
  have hok : ∀ s ∈ (List.replicate n z4).set u (one4 0), ok4 s := ok4_set (fun s hs => by rw [List.eq_of_mem_replicate hs]; exact ok4_zero) u (ok4_one 0)
  refine ⟨?_, by simp, by simp, hok, hok, fun v p hp => ?_⟩
  · rw [h0]
    refine ⟨by simp, fun v p hp => ?_, fun m p h1 h2 => ?_, fun v p hp => hp, fun v => ?_, by simp, fun v hv => by simp at hv; omega⟩
    · simp at hp; obtain ⟨rfl, rfl⟩ := hp; exact .start
    · rw [h1] at h2; simp at h2
    · simp
  · rw [h0] at hp
    simp at hp
    omega
end
/-- which nodes are found in the end -/
theorem wk_rel {t : Rx} {E : Nat → Nat → Nat → Prop} {u n P : Nat} {a b : List S4} (h : Wk (bh0 t) (tk0 t) E u n P a b [] (fun _ _ _ _ => False)) {en : S4} (he : ∀ q, mem4 en q = en0 t q) (v : Nat) : and4 (a.getD v z4) en ≠ z4 ↔ rel E t u v := by
  rw [← rc_rel, Ne, zero4 (ok4_and (ok4_at h.oka v))]
  constructor
  · intro hn
    refine Classical.byContradiction fun hc => hn fun p => ?_
    rw [mem4_and]
    cases e : (mem4 (a.getD v z4) p && mem4 en p) with
    | false => rfl
    | true =>
      simp only [Bool.and_eq_true] at e
      exact absurd ⟨p, (inv_end h.inv v p).1 e.1, by rw [← he]; exact e.2⟩ hc
  · rintro ⟨p, hr, hp⟩ hn
    have := hn p
    rw [mem4_and, he, hp, show mem4 (a.getD v z4) p = true from (inv_end h.inv v p).2 hr] at this
    simp at this
end Go.Proofs.YtphjbbbnbmafnabGreatDoor.G
