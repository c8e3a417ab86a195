/-
  What the program's reader lays down of an expression: its places in rows of sets, part by part: without the program.
  The expression that was read, as rows of sets; all ways at once, with sets in words: without the program.
-/
import Derived.Test.YtphjbbbnbmafnabGreatDoorXLk
import Derived.Test.YtphjbbbnbmafnabGreatDoorRxW
namespace Go.Proofs.YtphjbbbnbmafnabGreatDoor.G
open Go.Proofs.YtphjbbbnbmafnabGreatDoor.RxM Rx

/-- is a place in a set? -/
def mem4 (s : S4) (p : Nat) : Bool := memW [s.1, s.2.1, s.2.2.1, s.2.2.2] p
theorem mem4_or (s t : S4) (p : Nat) : mem4 (or4 s t) p = (mem4 s p || mem4 t p) := by
  unfold mem4 memW or4
  simp only
  match p / 64 with
  | 0 => simp [Nat.testBit_or]
  | 1 => simp [Nat.testBit_or]
  | 2 => simp [Nat.testBit_or]
  | 3 => simp [Nat.testBit_or]
  | i + 4 => simp
theorem mem4_zero (p : Nat) : mem4 (0, 0, 0, 0) p = false := by
  unfold mem4 memW
  simp only
  match p / 64 with
  | 0 => simp
  | 1 => simp
  | 2 => simp
  | 3 => simp
  | i + 4 => simp
theorem bit_one (a b : Nat) : (2 ^ a).testBit b = (b == a) := by
  rw [Nat.testBit_two_pow]
  by_cases h : a = b
  · simp [h]
  · rw [decide_eq_false h]
    symm
    simpa using fun e : b = a => h e.symm
theorem mem4_one {p : Nat} (hp : p < 256) (q : Nat) : mem4 (one4 p) q = (q == p) := by
  unfold mem4 memW one4
  simp only
  have e : (q == p) = (decide (q / 64 = p / 64) && (q % 64 == p % 64)) := by
    rw [Bool.eq_iff_iff]
    simp only [beq_iff_eq, Bool.and_eq_true, decide_eq_true_eq]
    omega
  rw [e]
  have h4 : p / 64 < 4 := by omega
  generalize p / 64 = a at *
  generalize q / 64 = b at *
  match b with
  | 0 => by_cases h : a = 0 <;> simp [h, bit_one, eq_comm (a := (0 : Nat)) (b := a)]
  | 1 => by_cases h : a = 1 <;> simp [h, bit_one, eq_comm (a := (1 : Nat)) (b := a)]
  | 2 => by_cases h : a = 2 <;> simp [h, bit_one, eq_comm (a := (2 : Nat)) (b := a)]
  | 3 => by_cases h : a = 3 <;> simp [h, bit_one, eq_comm (a := (3 : Nat)) (b := a)]
  | i + 4 =>
    have h : ¬ (i + 4 = a) := by omega
    simp [h]
theorem ok4_one (p : Nat) : ok4 (one4 p) := by
  have h : 2 ^ (p % 64) < 18446744073709551616 := Nat.pow_lt_pow_right (a := 2) (n := 64) (by decide) (by omega)
  unfold ok4 one4
  simp only
  refine ⟨?_, ?_, ?_, ?_⟩ <;> (split; exact h; decide)
theorem ok4_zero : ok4 (0, 0, 0, 0) := ⟨by decide, by decide, by decide, by decide⟩
theorem mem_plTo {s : S4} {p : Nat} : p ∈ plTo s.1 s.2.1 s.2.2.1 s.2.2.2 4 ↔ mem4 s p = true := by
  unfold plTo mem4
  rw [show [s.1, s.2.1, s.2.2.1, s.2.2.2].take 4 = [s.1, s.2.1, s.2.2.1, s.2.2.2] from rfl, mem_placesW]
  simp
theorem mem4_orAll (ss : List S4) (ps : List Nat) (q : Nat) : mem4 (orAll ss ps) q = true ↔ ∃ p ∈ ps, mem4 (ss.getD p (0, 0, 0, 0)) q = true := by
  have : ∀ (ps : List Nat) (acc : S4), mem4 (ps.foldl (fun acc p => or4 acc (ss.getD p (0, 0, 0, 0))) acc) q = true ↔ mem4 acc q = true ∨ ∃ p ∈ ps, mem4 (ss.getD p (0, 0, 0, 0)) q = true := by
    intro ps
    induction ps with
    | nil => intro acc; simp
    | cons x ps ih =>
      intro acc
      rw [List.foldl_cons, ih, mem4_or, Bool.or_eq_true]
      simp [or_assoc]
  unfold orAll
  rw [this, mem4_zero]
  simp
/-- a row behind links: which places were linked -/
theorem linkAll_get (t : S4) (ps : List Nat) (ss : List S4) (p q : Nat) (hp : p < ss.length) : mem4 ((linkAll t ss ps).getD p (0, 0, 0, 0)) q = (mem4 (ss.getD p (0, 0, 0, 0)) q || (decide (p ∈ ps) && mem4 t q)) := by
  induction ps generalizing ss with
  | nil => simp [linkAll]
  | cons x ps ih =>
    show mem4 ((linkAll t (ss.set x (or4 (ss.getD x (0, 0, 0, 0)) t)) ps).getD p (0, 0, 0, 0)) q = _
    rw [ih _ (by simpa using hp)]
    by_cases e : x = p
    · subst e
      rw [List.getD_eq_getElem?_getD, List.getElem?_set_self hp, Option.getD_some, mem4_or]
      simp only [List.mem_cons, true_or, decide_true, Bool.true_and]
      cases mem4 t q <;> simp
    · rw [List.getD_eq_getElem?_getD, List.getElem?_set_ne e, ← List.getD_eq_getElem?_getD]
      have : decide (p ∈ x :: ps) = decide (p ∈ ps) := by
        refine decide_eq_decide.2 ?_
        simp only [List.mem_cons]
        exact ⟨fun h => h.resolve_left fun h => e h.symm, .inr⟩
      rw [this]
theorem linkAll_old (t : S4) (ps : List Nat) (ss : List S4) (p : Nat) (hp : p ∉ ps) : (linkAll t ss ps)[p]? = ss[p]? := by
  induction ps generalizing ss with
  | nil => rfl
  | cons x ps ih =>
    show (linkAll t (ss.set x (or4 (ss.getD x (0, 0, 0, 0)) t)) ps)[p]? = _
    rw [ih _ fun h => hp (by simp [h]), List.getElem?_set_ne fun e => hp (by simp [e])]
/-- an expression is laid behind what was there -/
structure Laid (t : Rx) (ss ts ss2 ts2 : List S4) : Prop where
  len : ss2.length = ss.length + size t
  old : ∀ p, p < ss.length → ss2[p]? = ss[p]?
  nx : ∀ p q, ss.length ≤ p → p < ss2.length → mem4 (ss2.getD p (0, 0, 0, 0)) q = nxt t ss.length p q
  tlen : ts2.length = ts.length
  tk : ∀ c q, c < ts.length → mem4 (ts2.getD c (0, 0, 0, 0)) q = (mem4 (ts.getD c (0, 0, 0, 0)) q || (decide (ss.length ≤ q) && decide (q < ss.length + size t) && takes (lab t ss.length q) c))
/-- what there is to know of a part: first, last, empty -/
abbrev P4 := S4 × S4 × Bool
structure IsPart (P : P4) (t : Rx) (k : Nat) : Prop where
  ok1 : ok4 P.1
  ok2 : ok4 P.2.1
  fs : ∀ q, mem4 P.1 q = fst t k q
  ls : ∀ q, mem4 P.2.1 q = lst t k q
  em : P.2.2 = nul t
/-- one part behind the other; a part behind itself; one or the other -/
def join4 (x y : P4) : P4 := (if x.2.2 then or4 x.1 y.1 else x.1, if y.2.2 then or4 y.2.1 x.2.1 else y.2.1, x.2.2 && y.2.2)
def star4 (x : P4) : P4 := (x.1, x.2.1, true)
def alt4 (x y : P4) : P4 := (or4 x.1 y.1, or4 x.2.1 y.2.1, x.2.2 || y.2.2)
theorem isPart_eps (k : Nat) : IsPart ((0, 0, 0, 0), (0, 0, 0, 0), true) eps k := ⟨ok4_zero, ok4_zero, fun q => mem4_zero q, fun q => mem4_zero q, rfl⟩
theorem isPart_sym {k : Nat} (hk : k < 256) (l : Option Nat) : IsPart (one4 k, one4 k, false) (sym l) k := ⟨ok4_one k, ok4_one k, fun q => by rw [mem4_one hk]; rfl, fun q => by rw [mem4_one hk]; rfl, rfl⟩
theorem IsPart.star {P : P4} {t : Rx} {k : Nat} (h : IsPart P t k) : IsPart (star4 P) (star t) k := ⟨h.ok1, h.ok2, h.fs, h.ls, rfl⟩
theorem IsPart.cat {P Q : P4} {a b : Rx} {k : Nat} (h : IsPart P a k) (h2 : IsPart Q b (k + size a)) : IsPart (join4 P Q) (cat a b) k := by
  obtain ⟨f, l, e⟩ := P
  obtain ⟨f2, l2, e2⟩ := Q
  obtain ⟨o1, o2, hf, hl, he⟩ := h
  obtain ⟨o3, o4, hf2, hl2, he2⟩ := h2
  simp only at o1 o2 hf hl he o3 o4 hf2 hl2 he2
  unfold join4
  refine ⟨?_, ?_, fun q => ?_, fun q => ?_, ?_⟩
  · simp only; split; exact ok4_or o1 o3; exact o1
  · simp only; split; exact ok4_or o4 o2; exact o4
  · simp only [fst, ← he]
    cases e
    · simp [hf]
    · simp [mem4_or, hf, hf2]
  · simp only [lst, ← he2]
    cases e2
    · simp [hl2]
    · simp [mem4_or, hl, hl2]
  · simp only [nul, he, he2]
theorem IsPart.alt {P Q : P4} {a b : Rx} {k : Nat} (h : IsPart P a k) (h2 : IsPart Q b (k + size a)) : IsPart (alt4 P Q) (alt a b) k :=
  ⟨ok4_or h.ok1 h2.ok1, ok4_or h.ok2 h2.ok2, fun q => by unfold alt4; simp only [mem4_or, fst, h.fs, h2.fs], fun q => by unfold alt4; simp only [mem4_or, lst, h.ls, h2.ls], by unfold alt4; simp only [nul, h.em, h2.em]⟩
theorem IsPart.void {P : P4} {a : Rx} {k : Nat} (h : IsPart P a k) : IsPart P (Rx.alt Rx.void a) k :=
  ⟨h.ok1, h.ok2, fun q => by rw [h.fs]; simp [fst, size], fun q => by rw [h.ls]; simp [lst, size], by rw [h.em]; simp [nul]⟩
theorem laid_eps (ss ts : List S4) : Laid eps ss ts ss ts :=
  ⟨rfl, fun _ _ => rfl, fun p q h1 h2 => by omega, rfl, fun c q _ => by
    rw [show size eps = 0 from rfl]
    have : (decide (ss.length ≤ q) && decide (q < ss.length + 0)) = false := by
      rw [Bool.and_eq_false_iff, decide_eq_false_iff_not, decide_eq_false_iff_not]; omega
    rw [this]; simp⟩
theorem Laid.void {t : Rx} {ss ts ss2 ts2 : List S4} (h : Laid t ss ts ss2 ts2) : Laid (alt void t) ss ts ss2 ts2 := by
  refine ⟨by rw [h.len]; simp [size], h.old, fun p q h1 h2 => ?_, h.tlen, fun c q hc => ?_⟩
  · rw [h.nx p q h1 h2]; simp [nxt, size]
  · rw [h.tk c q hc]; simp [size, lab, labs]
/-- a new place: a row grows by an empty set, and the labels' sets by the place -/
theorem laid_sym (l : Option Nat) (ss ts ts2 : List S4) (hlen : ts2.length = ts.length) (h : ∀ c q, c < ts.length → mem4 (ts2.getD c (0, 0, 0, 0)) q = (mem4 (ts.getD c (0, 0, 0, 0)) q || (q == ss.length && takes l c))) : Laid (sym l) ss ts (ss ++ [(0, 0, 0, 0)]) ts2 := by
  refine ⟨by simp [size], fun p hp => List.getElem?_append_left hp, fun p q h1 h2 => ?_, hlen, fun c q hc => ?_⟩
  · have e : p = ss.length := by simp at h2; omega
    subst e
    rw [List.getD_eq_getElem?_getD, List.getElem?_append_right (Nat.le_refl _), Nat.sub_self]
    simp [mem4_zero, nxt]
  · rw [h c q hc]
    congr 1
    by_cases e : q = ss.length
    · subst e; simp [size, lab, labs]
    · have : (decide (ss.length ≤ q) && decide (q < ss.length + size (sym l))) = false := by
        rw [Bool.and_eq_false_iff, decide_eq_false_iff_not, decide_eq_false_iff_not, show size (sym l) = 1 from rfl]; omega
      rw [this]; simp [e]
theorem Laid.star {t : Rx} {ss ts ss2 ts2 : List S4} {P : P4} (h : Laid t ss ts ss2 ts2) (hP : IsPart P t ss.length) : Laid (star t) ss ts (linkAll P.1 ss2 (plTo P.2.1.1 P.2.1.2.1 P.2.1.2.2.1 P.2.1.2.2.2 4)) ts2 := by
  have hm : ∀ p, p ∈ plTo P.2.1.1 P.2.1.2.1 P.2.1.2.2.1 P.2.1.2.2.2 4 ↔ lst t ss.length p = true := fun p => by rw [mem_plTo, hP.ls]
  refine ⟨by rw [linkAll_len, h.len]; rfl, fun p hp => ?_, fun p q h1 h2 => ?_, h.tlen, h.tk⟩
  · rw [linkAll_old _ _ _ _ fun hx => by have := lst_in _ _ _ ((hm p).1 hx); omega]
    exact h.old p hp
  · rw [linkAll_len] at h2
    rw [linkAll_get _ _ _ _ _ h2, h.nx p q h1 h2, hP.fs]
    simp only [nxt]
    congr 2
    rw [Bool.eq_iff_iff, decide_eq_true_eq, hm]
theorem Laid.alt {a b : Rx} {ss ts ss1 ts1 ss2 ts2 : List S4} (h : Laid a ss ts ss1 ts1) (h2 : Laid b ss1 ts1 ss2 ts2) : Laid (alt a b) ss ts ss2 ts2 := by
  have hl := h.len
  have hl2 := h2.len
  refine ⟨by rw [hl2, hl]; simp only [size]; omega, fun p hp => (h2.old p (by omega)).trans (h.old p hp), fun p q h3 h4 => ?_, h2.tlen.trans h.tlen, fun c q hc => ?_⟩
  · simp only [nxt]
    by_cases e : p < ss1.length
    · have e2 : ss2.getD p (0, 0, 0, 0) = ss1.getD p (0, 0, 0, 0) := by rw [List.getD_eq_getElem?_getD, List.getD_eq_getElem?_getD, h2.old p e]
      rw [e2, h.nx p q h3 e]
      cases hx : nxt b (ss.length + size a) p q with
      | false => simp
      | true => have := nxt_in _ _ _ _ hx; omega
    · rw [h2.nx p q (by omega) h4, hl]
      cases hx : nxt a ss.length p q with
      | false => simp
      | true => have := nxt_in _ _ _ _ hx; omega
  · rw [h2.tk c q (by rw [h.tlen]; exact hc), h.tk c q hc, hl, Bool.or_assoc]
    congr 1
    have hs : size (Rx.alt a b) = size a + size b := rfl
    have hb : lab (Rx.alt a b) ss.length q = (labs a ++ labs b).getD (q - ss.length) none := rfl
    rw [hb]
    by_cases e : q < ss.length + size a
    · have d1 : decide (ss.length + size a ≤ q) = false := decide_eq_false (by omega)
      have d2 : decide (q < ss.length + size a) = true := decide_eq_true e
      have d3 : decide (q < ss.length + size (Rx.alt a b)) = true := decide_eq_true (by omega)
      rw [d1, d2, d3]
      by_cases e3 : ss.length ≤ q
      · rw [lab_l ⟨e3, e⟩]; simp
      · simp [e3]
    · have d1 : decide (ss.length + size a ≤ q) = true := decide_eq_true (by omega)
      have d2 : decide (q < ss.length + size a) = false := decide_eq_false e
      have d3 : decide (ss.length ≤ q) = true := decide_eq_true (by omega)
      have d4 : decide (q < ss.length + size a + size b) = decide (q < ss.length + size (Rx.alt a b)) := decide_eq_decide.2 (by omega)
      rw [d1, d2, d3, d4, lab_r (by omega)]
      simp
theorem Laid.cat {a b : Rx} {ss ts ss1 ts1 ss2 ts2 : List S4} {P Q : P4} (h : Laid a ss ts ss1 ts1) (h2 : Laid b ss1 ts1 ss2 ts2) (hP : IsPart P a ss.length) (hQ : IsPart Q b ss1.length) : Laid (cat a b) ss ts (linkAll Q.1 ss2 (plTo P.2.1.1 P.2.1.2.1 P.2.1.2.2.1 P.2.1.2.2.2 4)) ts2 := by
  have hc := h.alt h2
  have hl := h.len
  have hm : ∀ p, p ∈ plTo P.2.1.1 P.2.1.2.1 P.2.1.2.2.1 P.2.1.2.2.2 4 ↔ lst a ss.length p = true := fun p => by rw [mem_plTo, hP.ls]
  refine ⟨by rw [linkAll_len, hc.len]; rfl, fun p hp => ?_, fun p q h1 h3 => ?_, hc.tlen, hc.tk⟩
  · rw [linkAll_old _ _ _ _ fun hx => by have := lst_in _ _ _ ((hm p).1 hx); omega]
    exact hc.old p hp
  · rw [linkAll_len] at h3
    rw [linkAll_get _ _ _ _ _ h3, hc.nx p q h1 h3, hQ.fs]
    simp only [nxt, ← hl]
    congr 2
    rw [Bool.eq_iff_iff, decide_eq_true_eq, hm]
end Go.Proofs.YtphjbbbnbmafnabGreatDoor.G

namespace Go.Proofs.YtphjbbbnbmafnabGreatDoor.G
open Go.Proofs.YtphjbbbnbmafnabGreatDoor.RxM Rx

abbrev z4 : S4 := (0, 0, 0, 0)
/-- an expression as the program keeps it -/
structure Ex (t : Rx) (n : Nat) (ss ts : List S4) (en : S4) : Prop where
  len : ss.length = 1 + size t
  tlen : ts.length = n
  bh : ∀ p q, p < ss.length → mem4 (ss.getD p z4) q = bh0 t p q
  tk : ∀ c q, c < n → mem4 (ts.getD c z4) q = tk0 t c q
  es : ∀ q, mem4 en q = en0 t q
  ok1 : ∀ s ∈ ss, ok4 s
  ok2 : ∀ s ∈ ts, ok4 s
  ok3 : ok4 en
/-- the part ahead of all -/
def start4 : P4 := (z4, one4 0, false)
theorem laid_ex {t : Rx} {n : Nat} {ss2 ts2 : List S4} {P : P4} (h : Laid t [z4] (List.replicate n z4) ss2 ts2) (hP : IsPart P t 1) (h1 : ∀ s ∈ linkAll P.1 ss2 (plTo (one4 0).1 (one4 0).2.1 (one4 0).2.2.1 (one4 0).2.2.2 4), ok4 s) (h2 : ∀ s ∈ ts2, ok4 s) :
    Ex t n (linkAll P.1 ss2 (plTo (one4 0).1 (one4 0).2.1 (one4 0).2.2.1 (one4 0).2.2.2 4)) ts2 (join4 start4 P).2.1 := by
  have hl : ss2.length = 1 + size t := h.len
  have hm : ∀ p, p ∈ plTo (one4 0).1 (one4 0).2.1 (one4 0).2.2.1 (one4 0).2.2.2 4 ↔ p = 0 := fun p => by rw [mem_plTo, mem4_one (by decide)]; simp
  refine ⟨by rw [linkAll_len, hl], by rw [h.tlen]; simp, fun p q hp => ?_, fun c q hc => ?_, fun q => ?_, h1, h2, ?_⟩
  · rw [linkAll_len] at hp
    rw [linkAll_get _ _ _ _ _ hp, hP.fs]
    unfold bh0
    by_cases e : p = 0
    · subst e
      have e2 : ss2.getD 0 z4 = z4 := by rw [List.getD_eq_getElem?_getD, h.old 0 (by simp)]; rfl
      rw [e2, mem4_zero, if_pos rfl, decide_eq_true ((hm 0).2 rfl)]
      simp
    · rw [if_neg e, decide_eq_false fun hx => e ((hm p).1 hx), h.nx p q (by simp; omega) hp]
      simp
  · rw [h.tk c q (by simpa using hc)]
    have e2 : (List.replicate n z4).getD c z4 = z4 := by rw [List.getD_eq_getElem?_getD, List.getElem?_replicate, if_pos hc]; rfl
    rw [e2, mem4_zero]
    simp [tk0]
  · unfold join4 start4 en0
    simp only
    rw [hP.em]
    cases nul t
    · simp [hP.ls]
    · simp [mem4_or, hP.ls, mem4_one]
  · unfold join4 start4
    simp only
    split
    · exact ok4_or hP.ok2 (ok4_one 0)
    · exact hP.ok2
/-- sets, without others -/
def wo4 (s t : S4) : S4 := (s.1 &&& (18446744073709551615 - t.1), s.2.1 &&& (18446744073709551615 - t.2.1), s.2.2.1 &&& (18446744073709551615 - t.2.2.1), s.2.2.2 &&& (18446744073709551615 - t.2.2.2))
theorem bit_not (x j : Nat) (hx : x < 18446744073709551616) (hj : j < 64) : (18446744073709551615 - x).testBit j = !x.testBit j := by
  have := Nat.testBit_two_pow_sub_succ (n := 64) (x := x) hx j
  rw [show 2 ^ 64 - (x + 1) = 18446744073709551615 - x by omega] at this
  rw [this, decide_eq_true hj, Bool.true_and]
theorem mem4_wo (s : S4) {t : S4} (ht : ok4 t) (p : Nat) : mem4 (wo4 s t) p = (mem4 s p && !mem4 t p) := by
  have hj : p % 64 < 64 := Nat.mod_lt _ (by decide)
  obtain ⟨t0, t1, t2, t3⟩ := t
  obtain ⟨h0, h1, h2, h3⟩ := ht
  simp only at h0 h1 h2 h3
  unfold mem4 memW wo4
  simp only
  match p / 64 with
  | 0 => simp [Nat.testBit_and, bit_not _ _ h0 hj]
  | 1 => simp [Nat.testBit_and, bit_not _ _ h1 hj]
  | 2 => simp [Nat.testBit_and, bit_not _ _ h2 hj]
  | 3 => simp [Nat.testBit_and, bit_not _ _ h3 hj]
  | i + 4 => simp
def and4 (s t : S4) : S4 := (s.1 &&& t.1, s.2.1 &&& t.2.1, s.2.2.1 &&& t.2.2.1, s.2.2.2 &&& t.2.2.2)
theorem mem4_and (s t : S4) (p : Nat) : mem4 (and4 s t) p = (mem4 s p && mem4 t p) := by
  unfold mem4 memW and4
  simp only
  match p / 64 with
  | 0 => simp [Nat.testBit_and]
  | 1 => simp [Nat.testBit_and]
  | 2 => simp [Nat.testBit_and]
  | 3 => simp [Nat.testBit_and]
  | i + 4 => simp
theorem and_lt64 {a b : Nat} (ha : a < 18446744073709551616) : a &&& b < 18446744073709551616 := Nat.lt_of_le_of_lt Nat.and_le_left ha
theorem ok4_and {s t : S4} (h : ok4 s) : ok4 (and4 s t) := ⟨and_lt64 h.1, and_lt64 h.2.1, and_lt64 h.2.2.1, and_lt64 h.2.2.2⟩
/-- a set is empty when no place is in it -/
theorem zero4 {s : S4} (hs : ok4 s) : s = z4 ↔ ∀ p, mem4 s p = false := by
  constructor
  · rintro rfl p; exact mem4_zero p
  · intro h
    obtain ⟨a, b, c, d⟩ := s
    have key : ∀ (i : Nat) (w : Nat), w < 18446744073709551616 → (∀ j, j < 64 → w.testBit j = false) → i = i → w = 0 := by
      intro i w hw hb _
      refine Nat.eq_of_testBit_eq fun j => ?_
      rw [Nat.zero_testBit]
      by_cases hj : j < 64
      · exact hb j hj
      · exact Nat.testBit_lt_two_pow (Nat.lt_of_lt_of_le (show w < 2 ^ 64 from hw) (Nat.pow_le_pow_right (by decide) (by omega)))
    have hh : ∀ i j, j < 64 → ([a, b, c, d].getD i 0).testBit j = false := fun i j hj => by
      have := h (64 * i + j)
      unfold mem4 memW at this
      rw [show (64 * i + j) / 64 = i by omega, show (64 * i + j) % 64 = j by omega] at this
      exact this
    have e0 := key 0 a hs.1 (fun j hj => hh 0 j hj) rfl
    have e1 := key 1 b hs.2.1 (fun j hj => hh 1 j hj) rfl
    have e2 := key 2 c hs.2.2.1 (fun j hj => hh 2 j hj) rfl
    have e3 := key 3 d hs.2.2.2 (fun j hj => hh 3 j hj) rfl
    rw [e0, e1, e2, e3]
/-- a row of sets, as a function -/
def fn (l : List S4) (v p : Nat) : Bool := mem4 (l.getD v z4) p
theorem fn_set {l : List S4} {v : Nat} (hv : v < l.length) (s : S4) : fn (l.set v s) = upd (fn l) v (mem4 s) := by
  funext x p
  unfold fn upd
  by_cases e : x = v
  · subst e
    rw [if_pos rfl, List.getD_eq_getElem?_getD, List.getElem?_set_self hv]
    rfl
  · rw [if_neg e, List.getD_eq_getElem?_getD, List.getElem?_set_ne fun h => e h.symm, ← List.getD_eq_getElem?_getD]
/-- a way comes to a node -/
def come (a b : List S4) (w : List Nat) (v : Nat) (f : S4) : List S4 × List S4 × List Nat :=
  if f = z4 then (a, b, w) else (a.set v (or4 (a.getD v z4) f), b.set v (or4 (b.getD v z4) f), if b.getD v z4 = z4 then w ++ [v] else w)
section
variable {bh : Nat → Nat → Bool} {tk : Nat → Nat → Bool} {E : Nat → Nat → Nat → Prop} {u : Nat}
/-- what is known of all ways, in sets -/
structure Wk (bh tk : Nat → Nat → Bool) (E : Nat → Nat → Nat → Prop) (u n P : Nat) (a b : List S4) (w : List Nat) (X : Nat → Nat → Nat → Nat → Prop) : Prop where
  inv : Inv bh tk E u n (fn a) (fn b) w X
  la : a.length = n
  lb : b.length = n
  oka : ∀ s ∈ a, ok4 s
  okb : ∀ s ∈ b, ok4 s
  bd : ∀ v p, fn a v p = true → p < P
/-- how much is still to be done -/
def todo (a : List S4) (w : List Nat) (n P : Nat) : Nat := 2 * unseen (fn a) n P + w.length
theorem ok4_at {l : List S4} (h : ∀ s ∈ l, ok4 s) (v : Nat) : ok4 (l.getD v z4) := by
  rw [List.getD_eq_getElem?_getD]
  cases e : l[v]? with
  | none => exact ok4_zero
  | some s => exact h s (List.mem_of_getElem? e)
theorem ok4_set {l : List S4} (h : ∀ s ∈ l, ok4 s) (v : Nat) {x : S4} (hx : ok4 x) : ∀ s ∈ l.set v x, ok4 s := fun s hs => by
  rcases List.mem_or_eq_of_mem_set hs with hs | rfl
  · exact h s hs
  · exact hx
theorem wk_come {n P : Nat} {a b : List S4} {w : List Nat} {X Y : Nat → Nat → Nat → Nat → Prop} (h : Wk bh tk E u n P a b w X) (v : Nat) (hv : v < n) (at_ f : S4) (hf : ok4 f) (hff : ∀ p, mem4 f p = (mem4 at_ p && !fn a v p)) (hr : ∀ q, mem4 at_ q = true → Rc bh tk E u q v) (hP : ∀ q, mem4 at_ q = true → q < P)
    (hX : ∀ m p q c v1, bh p q = true → tk c q = true → E m c v1 → X m p c v1 → (v1 = v ∧ mem4 at_ q = true) ∨ Y m p c v1) :
    Wk bh tk E u n P (come a b w v f).1 (come a b w v f).2.1 (come a b w v f).2.2 Y ∧ todo (come a b w v f).1 (come a b w v f).2.2 n P ≤ todo a w n P := by
  have hva : v < a.length := by rw [h.la]; exact hv
  have hvb : v < b.length := by rw [h.lb]; exact hv
  unfold come
  by_cases hz : f = z4
  · rw [if_pos hz]
    refine ⟨⟨inv_none h.inv fun m p q c v1 _ _ h3 h4 h5 h6 => ?_, h.la, h.lb, h.oka, h.okb, h.bd⟩, Nat.le_refl _⟩
    rcases hX m p q c v1 h3 h5 h4 h6 with ⟨rfl, hq⟩ | hy
    · have := hff q
      rw [hz, mem4_zero, hq] at this
      simp at this
      exact .inl this
    · exact .inr hy
  · rw [if_neg hz]
    have hnew : ∃ q, mem4 at_ q = true ∧ fn a v q = false := by
      refine Classical.byContradiction fun hc => hz ((zero4 hf).2 fun p => ?_)
      cases e : mem4 f p with
      | false => rfl
      | true =>
        rw [hff p] at e
        simp only [Bool.and_eq_true, Bool.not_eq_true'] at e
        exact absurd ⟨p, e⟩ hc
    have ea : (upd (fn a) v fun p => fn a v p || mem4 at_ p) = fn (a.set v (or4 (a.getD v z4) f)) := by
      rw [fn_set hva]
      unfold upd
      funext x p
      simp only [mem4_or, hff]
      split
      · show _ = (fn a v p || _)
        cases fn a v p <;> simp
      · rfl
    have eb : (upd (fn b) v fun p => fn b v p || (mem4 at_ p && !fn a v p)) = fn (b.set v (or4 (b.getD v z4) f)) := by
      rw [fn_set hvb]
      unfold upd
      funext x p
      simp only [mem4_or, hff]
      rfl
    have hi := inv_come h.inv v (mem4 at_) hv hr hnew (decide (b.getD v z4 = z4)) (by rw [decide_eq_true_eq, zero4 (ok4_at h.okb v)]; rfl) (wait' := if b.getD v z4 = z4 then w ++ [v] else w) (by simp only [decide_eq_true_eq]) hX
    rw [ea, eb] at hi
    refine ⟨⟨hi, by simp [h.la], by simp [h.lb], ok4_set h.oka v (ok4_or (ok4_at h.oka v) hf), ok4_set h.okb v (ok4_or (ok4_at h.okb v) hf), fun x p hp => ?_⟩, ?_⟩
    · rw [← ea] at hp
      unfold upd at hp
      split at hp
      · simp only [Bool.or_eq_true] at hp
        exact hp.elim (h.bd _ _) (hP _)
      · exact h.bd _ _ hp
    · obtain ⟨q, hq1, hq2⟩ := hnew
      have hlt : unseen (fn (a.set v (or4 (a.getD v z4) f))) n P < unseen (fn a) n P := by
        rw [← ea]
        refine unseen_lt (fun x p hp => ?_) v q hv (hP q hq1) hq2 ?_
        · unfold upd; split
          · rename_i e; subst e; simp [hp]
          · exact hp
        · unfold upd; rw [if_pos rfl]; simp [hq1]
      unfold todo
      simp only
      split
      · rw [List.length_append, List.length_singleton]; omega
      · omega
theorem ok4_wo {s t : S4} (h : ok4 s) : ok4 (wo4 s t) := ⟨and_lt64 h.1, and_lt64 h.2.1, and_lt64 h.2.2.1, and_lt64 h.2.2.2⟩
theorem wk_pop {n P : Nat} {a b : List S4} {w : List Nat} {x : Nat} (h : Wk bh tk E u n P a b (w ++ [x]) (fun _ _ _ _ => False)) : Wk bh tk E u n P a (b.set x z4) w (fun m p c v => m = x ∧ fn b x p = true ∧ E x c v) ∧ todo a w n P < todo a (w ++ [x]) n P ∧ x < n ∧ (∀ p, fn b x p = true → Rc bh tk E u p x ∧ p < P) := by
  have hx : x < n := h.inv.lt x (by simp)
  have hi := inv_pop h.inv
  have e : (upd (fn b) x fun _ => false) = fn (b.set x z4) := by
    rw [fn_set (by rw [h.lb]; exact hx)]
    congr 1
    funext p
    exact (mem4_zero p).symm
  rw [e] at hi
  refine ⟨⟨hi, h.la, by simp [h.lb], h.oka, ok4_set h.okb x ok4_zero, h.bd⟩, by unfold todo; simp, hx, fun p hp => ?_⟩
  have hs := h.inv.sub x p hp
  exact ⟨h.inv.sound x p hs, h.bd x p hs⟩
theorem wk_start {n P : Nat} (hu : u < n) (hP : 0 < P) : Wk bh tk E u n P ((List.replicate n z4).set u (one4 0)) ((List.replicate n z4).set u (one4 0)) [u] (fun _ _ _ _ => False) := by
  have h0 : fn ((List.replicate n z4).set u (one4 0)) = fun v p => decide (v = u) && (p == 0) := by
    rw [fn_set (by simpa using hu)]
    funext v p
    unfold upd
    by_cases e : v = u
    · rw [if_pos e, mem4_one (by decide)]; simp [e]
    · rw [if_neg e]
      unfold fn
      rw [List.getD_eq_getElem?_getD, List.getElem?_replicate]
      split <;> simp [mem4_zero, e]
  have hok : ∀ s ∈ (List.replicate n z4).set u (one4 0), ok4 s := ok4_set (fun s hs => by rw [List.eq_of_mem_replicate hs]; exact ok4_zero) u (ok4_one 0)
  refine ⟨?_, by simp, by simp, hok, hok, fun v p hp => ?_⟩
  · rw [h0]
    refine ⟨by simp, fun v p hp => ?_, fun m p h1 h2 => ?_, fun v p hp => hp, fun v => ?_, by simp, fun v hv => by simp at hv; omega⟩
    · simp at hp; obtain ⟨rfl, rfl⟩ := hp; exact .start
    · rw [h1] at h2; simp at h2
    · simp
  · rw [h0] at hp
    simp at hp
    omega
end
/-- which nodes are found in the end -/
theorem wk_rel {t : Rx} {E : Nat → Nat → Nat → Prop} {u n P : Nat} {a b : List S4} (h : Wk (bh0 t) (tk0 t) E u n P a b [] (fun _ _ _ _ => False)) {en : S4} (he : ∀ q, mem4 en q = en0 t q) (v : Nat) : and4 (a.getD v z4) en ≠ z4 ↔ rel E t u v := by
  rw [← rc_rel, Ne, zero4 (ok4_and (ok4_at h.oka v))]
  constructor
  · intro hn
    refine Classical.byContradiction fun hc => hn fun p => ?_
    rw [mem4_and]
    cases e : (mem4 (a.getD v z4) p && mem4 en p) with
    | false => rfl
    | true =>
      simp only [Bool.and_eq_true] at e
      exact absurd ⟨p, (inv_end h.inv v p).1 e.1, by rw [← he]; exact e.2⟩ hc
  · rintro ⟨p, hr, hp⟩ hn
    have := hn p
    rw [mem4_and, he, hp, show mem4 (a.getD v z4) p = true from (inv_end h.inv v p).2 hr] at this
    simp at this
end Go.Proofs.YtphjbbbnbmafnabGreatDoor.G
