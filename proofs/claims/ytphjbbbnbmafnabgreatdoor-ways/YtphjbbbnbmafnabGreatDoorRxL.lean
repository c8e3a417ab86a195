/-
  What the program's reader lays down of an expression: its places in rows of sets, part by part: without the program.
-/
import Derived.Test.YtphjbbbnbmafnabGreatDoorXLk
import Derived.Test.YtphjbbbnbmafnabGreatDoorRxW
import Derived.Test.YtphjbbbnbmafnabGreatDoorRxP
namespace Go.Proofs.YtphjbbbnbmafnabGreatDoor.G
open Go.Proofs.YtphjbbbnbmafnabGreatDoor.RxM Rx

/-- is a place in a set? -/
def mem4 (s : S4) (p : Nat) : Bool := memW [s.1, s.2.1, s.2.2.1, s.2.2.2] p
theorem mem4_or (s t : S4) (p : Nat) : mem4 (or4 s t) p = (mem4 s p || mem4 t p) := by
  unfold mem4 memW or4
  simp only
  match p / 64 with
  | 0 => simp [Nat.testBit_or]
  | 1 => simp [Nat.testBit_or]
  | 2 => simp [Nat.testBit_or]
  | 3 => simp [Nat.testBit_or]
  | i + 4 => simp
theorem mem4_zero (p : Nat) : mem4 (0, 0, 0, 0) p = false := by
  unfold mem4 memW
  simp only
  match p / 64 with
  | 0 => simp
  | 1 => simp
  | 2 => simp
  | 3 => simp
  | i + 4 => simp
theorem bit_one (a b : Nat) : (2 ^ a).testBit b = (b == a) := by
  rw [Nat.testBit_two_pow]
  by_cases h : a = b
  · simp [h]
  · rw [decide_eq_false h]
    symm
    simpa using fun e : b = a => h e.symm
theorem mem4_one {p : Nat} (hp : p < 256) (q : Nat) : mem4 (one4 p) q = (q == p) := by
  unfold mem4 memW one4
  simp only
  have e : (q == p) = (decide (q / 64 = p / 64) && (q % 64 == p % 64)) := by
    rw [Bool.eq_iff_iff]
    simp only [beq_iff_eq, Bool.and_eq_true, decide_eq_true_eq]
    omega
  rw [e]
  have h4 : p / 64 < 4 := by omega
  generalize p / 64 = a at *
  generalize q / 64 = b at *
  match b with
  | 0 => by_cases h : a = 0 <;> simp [h, bit_one, eq_comm (a := (0 : Nat)) (b := a)]
  | 1 => by_cases h : a = 1 <;> simp [h, bit_one, eq_comm (a := (1 : Nat)) (b := a)]
  | 2 => by_cases h : a = 2 <;> simp [h, bit_one, eq_comm (a := (2 : Nat)) (b := a)]
  | 3 => by_cases h : a = 3 <;> simp [h, bit_one, eq_comm (a := (3 : Nat)) (b := a)]
  | i + 4 =>
    have h : ¬ (i + 4 = a) := by omega
    simp [h]
theorem ok4_one (p : Nat) : ok4 (one4 p) := by
  have h : 2 ^ (p % 64) < 18446744073709551616 := Nat.pow_lt_pow_right (a := 2) (n := 64) (by decide) (by omega)
  unfold ok4 one4
  simp only
  refine ⟨?_, ?_, ?_, ?_⟩ <;> (split; exact h; decide)
theorem ok4_zero : ok4 (0, 0, 0, 0) := ⟨by decide, by decide, by decide, by decide⟩
theorem mem_plTo {s : S4} {p : Nat} : p ∈ plTo s.1 s.2.1 s.2.2.1 s.2.2.2 4 ↔ mem4 s p = true := by
  unfold plTo mem4
  rw [show [s.1, s.2.1, s.2.2.1, s.2.2.2].take 4 = [s.1, s.2.1, s.2.2.1, s.2.2.2] from rfl, mem_placesW]
  simp
theorem mem4_orAll (ss : List S4) (ps : List Nat) (q : Nat) : mem4 (orAll ss ps) q = true ↔ ∃ p ∈ ps, mem4 (ss.getD p (0, 0, 0, 0)) q = true := by
  have : ∀ (ps : List Nat) (acc : S4), mem4 (ps.foldl (fun acc p => or4 acc (ss.getD p (0, 0, 0, 0))) acc) q = true ↔ mem4 acc q = true ∨ ∃ p ∈ ps, mem4 (ss.getD p (0, 0, 0, 0)) q = true := by
    intro ps
    induction ps with
    | nil => intro acc; simp
    | cons x ps ih =>
      intro acc
      rw [List.foldl_cons, ih, mem4_or, Bool.or_eq_true]
      simp [or_assoc]
  unfold orAll
  rw [this, mem4_zero]
  simp
/-- a row behind links: which places were linked -/
theorem linkAll_get (t : S4) (ps : List Nat) (ss : List S4) (p q : Nat) (hp : p < ss.length) : mem4 ((linkAll t ss ps).getD p (0, 0, 0, 0)) q = (mem4 (ss.getD p (0, 0, 0, 0)) q || (decide (p ∈ ps) && mem4 t q)) := by
  induction ps generalizing ss with
  | nil => simp [linkAll]
  | cons x ps ih =>
    show mem4 ((linkAll t (ss.set x (or4 (ss.getD x (0, 0, 0, 0)) t)) ps).getD p (0, 0, 0, 0)) q = _
    rw [ih _ (by simpa using hp)]
    by_cases e : x = p
    · subst e
      rw [List.getD_eq_getElem?_getD, List.getElem?_set_self hp, Option.getD_some, mem4_or]
      simp only [List.mem_cons, true_or, decide_true, Bool.true_and]
      cases mem4 t q <;> simp
    · rw [List.getD_eq_getElem?_getD, List.getElem?_set_ne e, ← List.getD_eq_getElem?_getD]
      have : decide (p ∈ x :: ps) = decide (p ∈ ps) := by
        refine decide_eq_decide.2 ?_
        simp only [List.mem_cons]
        exact ⟨fun h => h.resolve_left fun h => e h.symm, .inr⟩
      rw [this]
theorem linkAll_old (t : S4) (ps : List Nat) (ss : List S4) (p : Nat) (hp : p ∉ ps) : (linkAll t ss ps)[p]? = ss[p]? := by
  induction ps generalizing ss with
  | nil => rfl
  | cons x ps ih =>
    show (linkAll t (ss.set x (or4 (ss.getD x (0, 0, 0, 0)) t)) ps)[p]? = _
    rw [ih _ fun h => hp (by simp [h]), List.getElem?_set_ne fun e => hp (by simp [e])]
/-- an expression is laid behind what was there -/
structure Laid (t : Rx) (ss ts ss2 ts2 : List S4) : Prop where
  len : ss2.length = ss.length + size t
  old : ∀ p, p < ss.length → ss2[p]? = ss[p]?
  nx : ∀ p q, ss.length ≤ p → p < ss2.length → mem4 (ss2.getD p (0, 0, 0, 0)) q = nxt t ss.length p q
  tlen : ts2.length = ts.length
  tk : ∀ c q, c < ts.length → mem4 (ts2.getD c (0, 0, 0, 0)) q = (mem4 (ts.getD c (0, 0, 0, 0)) q || (decide (ss.length ≤ q) && decide (q < ss.length + size t) && takes (lab t ss.length q) c))
/-- what there is to know of a part: first, last, empty -/
abbrev P4 := S4 × S4 × Bool
structure IsPart (P : P4) (t : Rx) (k : Nat) : Prop where
  ok1 : ok4 P.1
  ok2 : ok4 P.2.1
  fs : ∀ q, mem4 P.1 q = fst t k q
  ls : ∀ q, mem4 P.2.1 q = lst t k q
  em : P.2.2 = nul t
/-- one part behind the other; a part behind itself; one or the other -/
def join4 (x y : P4) : P4 := (if x.2.2 then or4 x.1 y.1 else x.1, if y.2.2 then or4 y.2.1 x.2.1 else y.2.1, x.2.2 && y.2.2)
def star4 (x : P4) : P4 := (x.1, x.2.1, true)
def alt4 (x y : P4) : P4 := (or4 x.1 y.1, or4 x.2.1 y.2.1, x.2.2 || y.2.2)
theorem isPart_eps (k : Nat) : IsPart ((0, 0, 0, 0), (0, 0, 0, 0), true) eps k := ⟨ok4_zero, ok4_zero, fun q => mem4_zero q, fun q => mem4_zero q, rfl⟩
theorem isPart_sym {k : Nat} (hk : k < 256) (l : Option Nat) : IsPart (one4 k, one4 k, false) (sym l) k := ⟨ok4_one k, ok4_one k, fun q => by rw [mem4_one hk]; rfl, fun q => by rw [mem4_one hk]; rfl, rfl⟩
theorem IsPart.star {P : P4} {t : Rx} {k : Nat} (h : IsPart P t k) : IsPart (star4 P) (star t) k := ⟨h.ok1, h.ok2, h.fs, h.ls, rfl⟩
theorem IsPart.cat {P Q : P4} {a b : Rx} {k : Nat} (h : IsPart P a k) (h2 : IsPart Q b (k + size a)) : IsPart (join4 P Q) (cat a b) k := by
  obtain ⟨f, l, e⟩ := P
  obtain ⟨f2, l2, e2⟩ := Q
  obtain ⟨o1, o2, hf, hl, he⟩ := h
  obtain ⟨o3, o4, hf2, hl2, he2⟩ := h2
  simp only at o1 o2 hf hl he o3 o4 hf2 hl2 he2
  unfold join4
  refine ⟨?_, ?_, fun q => ?_, fun q => ?_, ?_⟩
  · simp only; split; exact ok4_or o1 o3; exact o1
  · simp only; split; exact ok4_or o4 o2; exact o4
  · simp only [fst, ← he]
    cases e
    · simp [hf]
    · simp [mem4_or, hf, hf2]
  · simp only [lst, ← he2]
    cases e2
    · simp [hl2]
    · simp [mem4_or, hl, hl2]
  · simp only [nul, he, he2]
theorem IsPart.alt {P Q : P4} {a b : Rx} {k : Nat} (h : IsPart P a k) (h2 : IsPart Q b (k + size a)) : IsPart (alt4 P Q) (alt a b) k :=
  ⟨ok4_or h.ok1 h2.ok1, ok4_or h.ok2 h2.ok2, fun q => by unfold alt4; simp only [mem4_or, fst, h.fs, h2.fs], fun q => by unfold alt4; simp only [mem4_or, lst, h.ls, h2.ls], by unfold alt4; simp only [nul, h.em, h2.em]⟩
theorem IsPart.void {P : P4} {a : Rx} {k : Nat} (h : IsPart P a k) : IsPart P (Rx.alt Rx.void a) k :=
  ⟨h.ok1, h.ok2, fun q => by rw [h.fs]; simp [fst, size], fun q => by rw [h.ls]; simp [lst, size], by rw [h.em]; simp [nul]⟩
theorem laid_eps (ss ts : List S4) : Laid eps ss ts ss ts :=
  ⟨rfl, fun _ _ => rfl, fun p q h1 h2 => by omega, rfl, fun c q _ => by
    rw [show size eps = 0 from rfl]
    have : (decide (ss.length ≤ q) && decide (q < ss.length + 0)) = false := by
      rw [Bool.and_eq_false_iff, decide_eq_false_iff_not, decide_eq_false_iff_not]; omega
    rw [this]; simp⟩
theorem Laid.void {t : Rx} {ss ts ss2 ts2 : List S4} (h : Laid t ss ts ss2 ts2) : Laid (alt void t) ss ts ss2 ts2 := by
  refine ⟨by rw [h.len]; simp [size], h.old, fun p q h1 h2 => ?_, h.tlen, fun c q hc => ?_⟩
  · rw [h.nx p q h1 h2]; simp [nxt, size]
  · rw [h.tk c q hc]; simp [size, lab, labs]
/-- a new place: a row grows by an empty set, and the labels' sets by the place -/
theorem laid_sym (l : Option Nat) (ss ts ts2 : List S4) (hlen : ts2.length = ts.length) (h : ∀ c q, c < ts.length → mem4 (ts2.getD c (0, 0, 0, 0)) q = (mem4 (ts.getD c (0, 0, 0, 0)) q || (q == ss.length && takes l c))) : Laid (sym l) ss ts (ss ++ [(0, 0, 0, 0)]) ts2 := by
  refine ⟨by simp [size], fun p hp => List.getElem?_append_left hp, fun p q h1 h2 => ?_, hlen, fun c q hc => ?_⟩
  · have e : p = ss.length := by simp at h2; omega
    subst e
    rw [List.getD_eq_getElem?_getD, List.getElem?_append_right (Nat.le_refl _), Nat.sub_self]
    simp [mem4_zero, nxt]
  · rw [h c q hc]
    congr 1
    by_cases e : q = ss.length
    · subst e; simp [size, lab, labs]
    · have : (decide (ss.length ≤ q) && decide (q < ss.length + size (sym l))) = false := by
        rw [Bool.and_eq_false_iff, decide_eq_false_iff_not, decide_eq_false_iff_not, show size (sym l) = 1 from rfl]; omega
      rw [this]; simp [e]
theorem Laid.star {t : Rx} {ss ts ss2 ts2 : List S4} {P : P4} (h : Laid t ss ts ss2 ts2) (hP : IsPart P t ss.length) : Laid (star t) ss ts (linkAll P.1 ss2 (plTo P.2.1.1 P.2.1.2.1 P.2.1.2.2.1 P.2.1.2.2.2 4)) ts2 := by
  have hm : ∀ p, p ∈ plTo P.2.1.1 P.2.1.2.1 P.2.1.2.2.1 P.2.1.2.2.2 4 ↔ lst t ss.length p = true := fun p => by rw [mem_plTo, hP.ls]
  refine ⟨by rw [linkAll_len, h.len]; rfl, fun p hp => ?_, fun p q h1 h2 => ?_, h.tlen, h.tk⟩
  · rw [linkAll_old _ _ _ _ fun hx => by have := lst_in _ _ _ ((hm p).1 hx); omega]
    exact h.old p hp
  · rw [linkAll_len] at h2
    rw [linkAll_get _ _ _ _ _ h2, h.nx p q h1 h2, hP.fs]
    simp only [nxt]
    congr 2
    rw [Bool.eq_iff_iff, decide_eq_true_eq, hm]
theorem Laid.alt {a b : Rx} {ss ts ss1 ts1 ss2 ts2 : List S4} (h : Laid a ss ts ss1 ts1) (h2 : Laid b ss1 ts1 ss2 ts2) : Laid (alt a b) ss ts ss2 ts2 := by
  have hl := h.len
  have hl2 := h2.len
  refine ⟨by rw [hl2, hl]; simp only [size]; omega, fun p hp => (h2.old p (by omega)).trans (h.old p hp), fun p q h3 h4 => ?_, h2.tlen.trans h.tlen, fun c q hc => ?_⟩
  · simp only [nxt]
    by_cases e : p < ss1.length
    · have e2 : ss2.getD p (0, 0, 0, 0) = ss1.getD p (0, 0, 0, 0) := by rw [List.getD_eq_getElem?_getD, List.getD_eq_getElem?_getD, h2.old p e]
      rw [e2, h.nx p q h3 e]
      cases hx : nxt b (ss.length + size a) p q with
      | false => simp
      | true => have := nxt_in _ _ _ _ hx; omega
    · rw [h2.nx p q (by omega) h4, hl]
      cases hx : nxt a ss.length p q with
      | false => simp
      | true => have := nxt_in _ _ _ _ hx; omega
  · rw [h2.tk c q (by rw [h.tlen]; exact hc), h.tk c q hc, hl, Bool.or_assoc]
    congr 1
    have hs : size (Rx.alt a b) = size a + size b := rfl
    have hb : lab (Rx.alt a b) ss.length q = (labs a ++ labs b).getD (q - ss.length) none := rfl
    rw [hb]
    by_cases e : q < ss.length + size a
    · have d1 : decide (ss.length + size a ≤ q) = false := decide_eq_false (by omega)
      have d2 : decide (q < ss.length + size a) = true := decide_eq_true e
      have d3 : decide (q < ss.length + size (Rx.alt a b)) = true := decide_eq_true (by omega)
      rw [d1, d2, d3]
      by_cases e3 : ss.length ≤ q
      · rw [lab_l ⟨e3, e⟩]; simp
      · simp [e3]
    · have d1 : decide (ss.length + size a ≤ q) = true := decide_eq_true (by omega)
      have d2 : decide (q < ss.length + size a) = false := decide_eq_false e
      have d3 : decide (ss.length ≤ q) = true := decide_eq_true (by omega)
      have d4 : decide (q < ss.length + size a + size b) = decide (q < ss.length + size (Rx.alt a b)) := decide_eq_decide.2 (by omega)
      rw [d1, d2, d3, d4, lab_r (by omega)]
      simp
theorem Laid.cat {a b : Rx} {ss ts ss1 ts1 ss2 ts2 : List S4} {P Q : P4} (h : Laid a ss ts ss1 ts1) (h2 : Laid b ss1 ts1 ss2 ts2) (hP : IsPart P a ss.length) (hQ : IsPart Q b ss1.length) : Laid (cat a b) ss ts (linkAll Q.1 ss2 (plTo P.2.1.1 P.2.1.2.1 P.2.1.2.2.1 P.2.1.2.2.2 4)) ts2 := by
  have hc := h.alt h2
  have hl := h.len
  have hm : ∀ p, p ∈ plTo P.2.1.1 P.2.1.2.1 P.2.1.2.2.1 P.2.1.2.2.2 4 ↔ lst a ss.length p = true := fun p => by rw [mem_plTo, hP.ls]
  refine ⟨by rw [linkAll_len, hc.len]; rfl, fun p hp => ?_, fun p q h1 h3 => ?_, hc.tlen, hc.tk⟩
  · rw [linkAll_old _ _ _ _ fun hx => by have := lst_in _ _ _ ((hm p).1 hx); omega]
    exact hc.old p hp
  · rw [linkAll_len] at h3
    rw [linkAll_get _ _ _ _ _ h3, hc.nx p q h1 h3, hQ.fs]
    simp only [nxt, ← hl]
    congr 2
    rw [Bool.eq_iff_iff, decide_eq_true_eq, hm]
end Go.Proofs.YtphjbbbnbmafnabGreatDoor.G
