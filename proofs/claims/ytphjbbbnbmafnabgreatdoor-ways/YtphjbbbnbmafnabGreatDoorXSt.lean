/-
  The expression that was read, as rows of sets; all ways at once, with sets in words: without the program.
  The reader of an expression as it lies: its text, its rows of sets; how it is kept.
  The reader's starred: a part behind itself.
-/
import Derived.Test.YtphjbbbnbmafnabGreatDoorRxL
namespace Go.Proofs.YtphjbbbnbmafnabGreatDoor.G
open Go.Proofs.YtphjbbbnbmafnabGreatDoor.RxM Rx

abbrev z4 : S4 := (0, 0, 0, 0)
/-- an expression as the program keeps it -/
structure Ex (t : Rx) (n : Nat) (ss ts : List S4) (en : S4) : Prop where
  len : ss.length = 1 + size t
  tlen : ts.length = n
  bh : ∀ p q, p < ss.length → mem4 (ss.getD p z4) q = bh0 t p q
  tk : ∀ c q, c < n → mem4 (ts.getD c z4) q = tk0 t c q
  es : ∀ q, mem4 en q = en0 t q
  ok1 : ∀ s ∈ ss, ok4 s
  ok2 : ∀ s ∈ ts, ok4 s
  ok3 : ok4 en
/-- the part ahead of all -/
def start4 : P4 := (z4, one4 0, false)
theorem laid_ex {t : Rx} {n : Nat} {ss2 ts2 : List S4} {P : P4} (h : Laid t [z4] (List.replicate n z4) ss2 ts2) (hP : IsPart P t 1) (h1 : ∀ s ∈ linkAll P.1 ss2 (plTo (one4 0).1 (one4 0).2.1 (one4 0).2.2.1 (one4 0).2.2.2 4), ok4 s) (h2 : ∀ s ∈ ts2, ok4 s) :
    Ex t n (linkAll P.1 ss2 (plTo (one4 0).1 (one4 0).2.1 (one4 0).2.2.1 (one4 0).2.2.2 4)) ts2 (join4 start4 P).2.1 := by
  have hl : ss2.length = 1 + size t := h.len
  have hm : ∀ p, p ∈ plTo (one4 0).1 (one4 0).2.1 (one4 0).2.2.1 (one4 0).2.2.2 4 ↔ p = 0 := fun p => by rw [mem_plTo, mem4_one (by decide)]; simp
  refine ⟨by rw [linkAll_len, hl], by rw [h.tlen]; simp, fun p q hp => ?_, fun c q hc => ?_, fun q => ?_, h1, h2, ?_⟩
  · rw [linkAll_len] at hp
    rw [linkAll_get _ _ _ _ _ hp, hP.fs]
    unfold bh0
    by_cases e : p = 0
    · subst e
      have e2 : ss2.getD 0 z4 = z4 := by rw [List.getD_eq_getElem?_getD, h.old 0 (by simp)]; rfl
      rw [e2, mem4_zero, if_pos rfl, decide_eq_true ((hm 0).2 rfl)]
      simp
    · rw [if_neg e, decide_eq_false fun hx => e ((hm p).1 hx), h.nx p q (by simp; omega) hp]
      simp
  · rw [h.tk c q (by simpa using hc)]
    have e2 : (List.replicate n z4).getD c z4 = z4 := by rw [List.getD_eq_getElem?_getD, List.getElem?_replicate, if_pos hc]; rfl
    rw [e2, mem4_zero]
    simp [tk0]
  · unfold join4 start4 en0
    simp only
    rw [hP.em]
    cases nul t
    · simp [hP.ls]
    · simp [mem4_or, hP.ls, mem4_one]
  · unfold join4 start4
    simp only
    split
    · exact ok4_or hP.ok2 (ok4_one 0)
    · exact hP.ok2
/-- sets, without others -/
def wo4 (s t : S4) : S4 := (s.1 &&& (18446744073709551615 - t.1), s.2.1 &&& (18446744073709551615 - t.2.1), s.2.2.1 &&& (18446744073709551615 - t.2.2.1), s.2.2.2 &&& (18446744073709551615 - t.2.2.2))
theorem bit_not (x j : Nat) (hx : x < 18446744073709551616) (hj : j < 64) : (18446744073709551615 - x).testBit j = !x.testBit j := by
  have := Nat.testBit_two_pow_sub_succ (n := 64) (x := x) hx j
  rw [show 2 ^ 64 - (x + 1) = 18446744073709551615 - x by omega] at this
  rw [this, decide_eq_true hj, Bool.true_and]
theorem mem4_wo (s : S4) {t : S4} (ht : ok4 t) (p : Nat) : mem4 (wo4 s t) p = (mem4 s p && !mem4 t p) := by
  have hj : p % 64 < 64 := Nat.mod_lt _ (by decide)
  obtain ⟨t0, t1, t2, t3⟩ := t
  obtain ⟨h0, h1, h2, h3⟩ := ht
  simp only at h0 h1 h2 h3
  unfold mem4 memW wo4
  simp only
  match p / 64 with
  | 0 => simp [Nat.testBit_and, bit_not _ _ h0 hj]
  | 1 => simp [Nat.testBit_and, bit_not _ _ h1 hj]
  | 2 => simp [Nat.testBit_and, bit_not _ _ h2 hj]
  | 3 => simp [Nat.testBit_and, bit_not _ _ h3 hj]
  | i + 4 => simp
def and4 (s t : S4) : S4 := (s.1 &&& t.1, s.2.1 &&& t.2.1, s.2.2.1 &&& t.2.2.1, s.2.2.2 &&& t.2.2.2)
theorem mem4_and (s t : S4) (p : Nat) : mem4 (and4 s t) p = (mem4 s p && mem4 t p) := by
  unfold mem4 memW and4
  simp only
  match p / 64 with
  | 0 => simp [Nat.testBit_and]
  | 1 => simp [Nat.testBit_and]
  | 2 => simp [Nat.testBit_and]
  | 3 => simp [Nat.testBit_and]
  | i + 4 => simp
theorem and_lt64 {a b : Nat} (ha : a < 18446744073709551616) : a &&& b < 18446744073709551616 := Nat.lt_of_le_of_lt Nat.and_le_left ha
theorem ok4_and {s t : S4} (h : ok4 s) : ok4 (and4 s t) := ⟨and_lt64 h.1, and_lt64 h.2.1, and_lt64 h.2.2.1, and_lt64 h.2.2.2⟩
/-- a set is empty when no place is in it -/
theorem zero4 {s : S4} (hs : ok4 s) : s = z4 ↔ ∀ p, mem4 s p = false := by
  constructor
  · rintro rfl p; exact mem4_zero p
  · intro h
    obtain ⟨a, b, c, d⟩ := s
    have key : ∀ (i : Nat) (w : Nat), w < 18446744073709551616 → (∀ j, j < 64 → w.testBit j = false) → i = i → w = 0 := by
      intro i w hw hb _
      refine Nat.eq_of_testBit_eq fun j => ?_
      rw [Nat.zero_testBit]
      by_cases hj : j < 64
      · exact hb j hj
      · exact Nat.testBit_lt_two_pow (Nat.lt_of_lt_of_le (show w < 2 ^ 64 from hw) (Nat.pow_le_pow_right (by decide) (by omega)))
    have hh : ∀ i j, j < 64 → ([a, b, c, d].getD i 0).testBit j = false := fun i j hj => by
      have := h (64 * i + j)
      unfold mem4 memW at this
      rw [show (64 * i + j) / 64 = i by omega, show (64 * i + j) % 64 = j by omega] at this
      exact this
    have e0 := key 0 a hs.1 (fun j hj => hh 0 j hj) rfl
    have e1 := key 1 b hs.2.1 (fun j hj => hh 1 j hj) rfl
    have e2 := key 2 c hs.2.2.1 (fun j hj => hh 2 j hj) rfl
    have e3 := key 3 d hs.2.2.2 (fun j hj => hh 3 j hj) rfl
    rw [e0, e1, e2, e3]
/-- a row of sets, as a function -/
def fn (l : List S4) (v p : Nat) : Bool := mem4 (l.getD v z4) p
theorem fn_set {l : List S4} {v : Nat} (hv : v < l.length) (s : S4) : fn (l.set v s) = upd (fn l) v (mem4 s) := by
  funext x p
  unfold fn upd
  by_cases e : x = v
  · subst e
    rw [if_pos rfl, List.getD_eq_getElem?_getD, List.getElem?_set_self hv]
    rfl
  · rw [if_neg e, List.getD_eq_getElem?_getD, List.getElem?_set_ne fun h => e h.symm, ← List.getD_eq_getElem?_getD]
/-- a way comes to a node -/
def come (a b : List S4) (w : List Nat) (v : Nat) (f : S4) : List S4 × List S4 × List Nat :=
  if f = z4 then (a, b, w) else (a.set v (or4 (a.getD v z4) f), b.set v (or4 (b.getD v z4) f), if b.getD v z4 = z4 then w ++ [v] else w)
section
variable {bh : Nat → Nat → Bool} {tk : Nat → Nat → Bool} {E : Nat → Nat → Nat → Prop} {u : Nat}
/-- what is known of all ways, in sets -/
structure Wk (bh tk : Nat → Nat → Bool) (E : Nat → Nat → Nat → Prop) (u n P : Nat) (a b : List S4) (w : List Nat) (X : Nat → Nat → Nat → Nat → Prop) : Prop where
  inv : Inv bh tk E u n (fn a) (fn b) w X
  la : a.length = n
  lb : b.length = n
  oka : ∀ s ∈ a, ok4 s
  okb : ∀ s ∈ b, ok4 s
  bd : ∀ v p, fn a v p = true → p < P
/-- how much is still to be done -/
def todo (a : List S4) (w : List Nat) (n P : Nat) : Nat := 2 * unseen (fn a) n P + w.length
theorem ok4_at {l : List S4} (h : ∀ s ∈ l, ok4 s) (v : Nat) : ok4 (l.getD v z4) := by
  rw [List.getD_eq_getElem?_getD]
  cases e : l[v]? with
  | none => exact ok4_zero
  | some s => exact h s (List.mem_of_getElem? e)
theorem ok4_set {l : List S4} (h : ∀ s ∈ l, ok4 s) (v : Nat) {x : S4} (hx : ok4 x) : ∀ s ∈ l.set v x, ok4 s := fun s hs => by
  rcases List.mem_or_eq_of_mem_set hs with hs | rfl
  · exact h s hs
  · exact hx
theorem wk_come {n P : Nat} {a b : List S4} {w : List Nat} {X Y : Nat → Nat → Nat → Nat → Prop} (h : Wk bh tk E u n P a b w X) (v : Nat) (hv : v < n) (at_ f : S4) (hf : ok4 f) (hff : ∀ p, mem4 f p = (mem4 at_ p && !fn a v p)) (hr : ∀ q, mem4 at_ q = true → Rc bh tk E u q v) (hP : ∀ q, mem4 at_ q = true → q < P)
    (hX : ∀ m p q c v1, bh p q = true → tk c q = true → E m c v1 → X m p c v1 → (v1 = v ∧ mem4 at_ q = true) ∨ Y m p c v1) :
    Wk bh tk E u n P (come a b w v f).1 (come a b w v f).2.1 (come a b w v f).2.2 Y ∧ todo (come a b w v f).1 (come a b w v f).2.2 n P ≤ todo a w n P := by
  have hva : v < a.length := by rw [h.la]; exact hv
  have hvb : v < b.length := by rw [h.lb]; exact hv
  unfold come
  by_cases hz : f = z4
  · rw [if_pos hz]
    refine ⟨⟨inv_none h.inv fun m p q c v1 _ _ h3 h4 h5 h6 => ?_, h.la, h.lb, h.oka, h.okb, h.bd⟩, Nat.le_refl _⟩
    rcases hX m p q c v1 h3 h5 h4 h6 with ⟨rfl, hq⟩ | hy
    · have := hff q
      rw [hz, mem4_zero, hq] at this
      simp at this
      exact .inl this
    · exact .inr hy
  · rw [if_neg hz]
    have hnew : ∃ q, mem4 at_ q = true ∧ fn a v q = false := by
      refine Classical.byContradiction fun hc => hz ((zero4 hf).2 fun p => ?_)
      cases e : mem4 f p with
      | false => rfl
      | true =>
        rw [hff p] at e
        simp only [Bool.and_eq_true, Bool.not_eq_true'] at e
        exact absurd ⟨p, e⟩ hc
    have ea : (upd (fn a) v fun p => fn a v p || mem4 at_ p) = fn (a.set v (or4 (a.getD v z4) f)) := by
      rw [fn_set hva]
      unfold upd
      funext x p
      simp only [mem4_or, hff]
      split
      · show _ = (fn a v p || _)
        cases fn a v p <;> simp
      · rfl
    have eb : (upd (fn b) v fun p => fn b v p || (mem4 at_ p && !fn a v p)) = fn (b.set v (or4 (b.getD v z4) f)) := by
      rw [fn_set hvb]
      unfold upd
      funext x p
      simp only [mem4_or, hff]
      rfl
    have hi := inv_come h.inv v (mem4 at_) hv hr hnew (decide (b.getD v z4 = z4)) (by rw [decide_eq_true_eq, zero4 (ok4_at h.okb v)]; rfl) (wait' := if b.getD v z4 = z4 then w ++ [v] else w) (by simp only [decide_eq_true_eq]) hX
    rw [ea, eb] at hi
    refine ⟨⟨hi, by simp [h.la], by simp [h.lb], ok4_set h.oka v (ok4_or (ok4_at h.oka v) hf), ok4_set h.okb v (ok4_or (ok4_at h.okb v) hf), fun x p hp => ?_⟩, ?_⟩
    · rw [← ea] at hp
      unfold upd at hp
      split at hp
      · simp only [Bool.or_eq_true] at hp
        exact hp.elim (h.bd _ _) (hP _)
      · exact h.bd _ _ hp
    · obtain ⟨q, hq1, hq2⟩ := hnew
      have hlt : unseen (fn (a.set v (or4 (a.getD v z4) f))) n P < unseen (fn a) n P := by
        rw [← ea]
        refine unseen_lt (fun x p hp => ?_) v q hv (hP q hq1) hq2 ?_
        · unfold upd; split
          · rename_i e; subst e; simp [hp]
          · exact hp
        · unfold upd; rw [if_pos rfl]; simp [hq1]
      unfold todo
      simp only
      split
      · rw [List.length_append, List.length_singleton]; omega
      · omega
theorem ok4_wo {s t : S4} (h : ok4 s) : ok4 (wo4 s t) := ⟨and_lt64 h.1, and_lt64 h.2.1, and_lt64 h.2.2.1, and_lt64 h.2.2.2⟩
theorem wk_pop {n P : Nat} {a b : List S4} {w : List Nat} {x : Nat} (h : Wk bh tk E u n P a b (w ++ [x]) (fun _ _ _ _ => False)) : Wk bh tk E u n P a (b.set x z4) w (fun m p c v => m = x ∧ fn b x p = true ∧ E x c v) ∧ todo a w n P < todo a (w ++ [x]) n P ∧ x < n ∧ (∀ p, fn b x p = true → Rc bh tk E u p x ∧ p < P) := by
  have hx : x < n := h.inv.lt x (by simp)
  have hi := inv_pop h.inv
  have e : (upd (fn b) x fun _ => false) = fn (b.set x z4) := by
    rw [fn_set (by rw [h.lb]; exact hx)]
    congr 1
    funext p
    exact (mem4_zero p).symm
  rw [e] at hi
  refine ⟨⟨hi, h.la, by simp [h.lb], h.oka, ok4_set h.okb x ok4_zero, h.bd⟩, by unfold todo; simp, hx, fun p hp => ?_⟩
  have hs := h.inv.sub x p hp
  exact ⟨h.inv.sound x p hs, h.bd x p hs⟩
theorem wk_start {n P : Nat} (hu : u < n) (hP : 0 < P) : Wk bh tk E u n P ((List.replicate n z4).set u (one4 0)) ((List.replicate n z4).set u (one4 0)) [u] (fun _ _ _ _ => False) := by
  have h0 : fn ((List.replicate n z4).set u (one4 0)) = fun v p => decide (v = u) && (p == 0) := by
    rw [fn_set (by simpa using hu)]
    funext v p
    unfold upd
    by_cases e : v = u
    · rw [if_pos e, mem4_one (by decide)]; simp [e]
    · rw [if_neg e]
      unfold fn
      rw [List.getD_eq_getElem?_getD, List.getElem?_replicate]
      split <;> simp [mem4_zero, e]
  have hok : ∀ s ∈ (List.replicate n z4).set u (one4 0), ok4 s := ok4_set (fun s hs => by rw [List.eq_of_mem_replicate hs]; exact ok4_zero) u (ok4_one 0)
  refine ⟨?_, by simp, by simp, hok, hok, fun v p hp => ?_⟩
  · rw [h0]
    refine ⟨by simp, fun v p hp => ?_, fun m p h1 h2 => ?_, fun v p hp => hp, fun v => ?_, by simp, fun v hv => by simp at hv; omega⟩
    · simp at hp; obtain ⟨rfl, rfl⟩ := hp; exact .start
    · rw [h1] at h2; simp at h2
    · simp
  · rw [h0] at hp
    simp at hp
    omega
end
/-- which nodes are found in the end -/
theorem wk_rel {t : Rx} {E : Nat → Nat → Nat → Prop} {u n P : Nat} {a b : List S4} (h : Wk (bh0 t) (tk0 t) E u n P a b [] (fun _ _ _ _ => False)) {en : S4} (he : ∀ q, mem4 en q = en0 t q) (v : Nat) : and4 (a.getD v z4) en ≠ z4 ↔ rel E t u v := by
  rw [← rc_rel, Ne, zero4 (ok4_and (ok4_at h.oka v))]
  constructor
  · intro hn
    refine Classical.byContradiction fun hc => hn fun p => ?_
    rw [mem4_and]
    cases e : (mem4 (a.getD v z4) p && mem4 en p) with
    | false => rfl
    | true =>
      simp only [Bool.and_eq_true] at e
      exact absurd ⟨p, (inv_end h.inv v p).1 e.1, by rw [← he]; exact e.2⟩ hc
  · rintro ⟨p, hr, hp⟩ hn
    have := hn p
    rw [mem4_and, he, hp, show mem4 (a.getD v z4) p = true from (inv_end h.inv v p).2 hr] at this
    simp at this
end Go.Proofs.YtphjbbbnbmafnabGreatDoor.G

namespace Go.Proofs.YtphjbbbnbmafnabGreatDoor.G
open Go.RowKit Go.Shelf Go.Proofs.YtphjbbbnbmafnabGreatDoor.RxM

theorem TzAt.base {w w' : World} {base : Nat} (h : TzAt w) (hB : Below base w w') (h0 : 0 < base) : TzAt w' := fun j hj => (hB.cell (p := ⟨0, j, none⟩) h0).trans (h j hj)
/-- the reader as it lies -/
structure Rdr (w : World) (base R X : Nat) (s : ByteArray) (n : Nat) (uc : Bool) (gb cb gt ct : Nat) (ss ts : List S4) : Prop where
  rR : w.heap[R]? = some (.cells #[.string s, .int .i64 (n : Int), .pointer (some ⟨X, 0, none⟩), .bool uc] 110 (0, 0))
  rX : w.heap[X]? = some (.cells #[.slice (some ⟨gb, 0, none⟩) ss.length cb, .slice (some ⟨gt, 0, none⟩) ts.length ct, .int .u64 0, .int .u64 0, .int .u64 0, .int .u64 0] 116 (0, 0))
  ob : OwnSets w base gb cb ss
  ot : OwnSets w base gt ct ts
  okb : ∀ s ∈ ss, ok4 s
  okt : ∀ s ∈ ts, ok4 s
  tz : TzAt w
  tl : ts.length = n
  ne : R ≠ X ∧ R ≠ gb ∧ X ≠ gb ∧ R ≠ gt ∧ X ≠ gt ∧ gb ≠ gt
  bs : 0 < base ∧ base ≤ R ∧ base ≤ X ∧ base ≤ gb ∧ base ≤ gt
  room : ss.length + s.size ≤ 201
  n26 : n ≤ 26
theorem Rdr.lt {w : World} {base R X : Nat} {s : ByteArray} {n : Nat} {uc : Bool} {gb cb gt ct : Nat} {ss ts : List S4} (h : Rdr w base R X s n uc gb cb gt ct ss ts) : R < w.heap.size ∧ X < w.heap.size ∧ gb < w.heap.size ∧ gt < w.heap.size :=
  ⟨(Array.getElem?_eq_some_iff.1 h.rR).1, (Array.getElem?_eq_some_iff.1 h.rX).1, (h.ob.lt gb rfl).2, (h.ot.lt gt rfl).2⟩
/-- its blocks -/
abbrev Four (R X gb gt : Nat) : Nat → Prop := fun k => k = R ∨ k = X ∨ k = gb ∨ k = gt
theorem Rdr.same {w w' : World} {S : Nat → Prop} {base R X : Nat} {s : ByteArray} {n : Nat} {uc : Bool} {gb cb gt ct : Nat} {ss ts : List S4} (h : Rdr w base R X s n uc gb cb gt ct ss ts) (hs : Same w w' S) (hB : Below base w w') (hn : ∀ k, Four R X gb gt k → ¬ S k) : Rdr w' base R X s n uc gb cb gt ct ss ts := by
  have hl := h.lt
  refine ⟨(hs.2 R hl.1 (hn _ (.inl rfl))).trans h.rR, (hs.2 X hl.2.1 (hn _ (.inr (.inl rfl)))).trans h.rX, own_same h.ob hs (fun g e => ?_), own_same h.ot hs (fun g e => ?_), h.okb, h.okt, h.tz.base hB h.bs.1, h.tl, h.ne, h.bs, h.room, h.n26⟩
  · simp only [Value.ownBlock, Option.some.injEq] at e; subst e; exact hn _ (.inr (.inr (.inl rfl)))
  · simp only [Value.ownBlock, Option.some.injEq] at e; subst e; exact hn _ (.inr (.inr (.inr rfl)))
theorem Rdr.below {w w' : World} {base R X : Nat} {s : ByteArray} {n : Nat} {uc : Bool} {gb cb gt ct : Nat} {ss ts : List S4} (h : Rdr w base R X s n uc gb cb gt ct ss ts) (hB : Below w.heap.size w w') : Rdr w' base R X s n uc gb cb gt ct ss ts :=
  h.same (Same.below hB) (hB.mono (by have := h.lt; have := h.bs; omega)) (fun _ _ => id)
/-- its row of what comes behind is written, where it is -/
theorem Rdr.linked {w w' : World} {base R X : Nat} {s : ByteArray} {n : Nat} {uc : Bool} {gb cb gt ct : Nat} {ss ss' ts : List S4} (h : Rdr w base R X s n uc gb cb gt ct ss ts) (hs : Same w w' (fun k => k = gb)) (hB : Below base w w') (ho : OwnSets w' base gb cb ss') (hok : ∀ s ∈ ss', ok4 s) (hlen : ss'.length = ss.length) : Rdr w' base R X s n uc gb cb gt ct ss' ts := by
  have hl := h.lt
  refine ⟨(hs.2 R hl.1 h.ne.2.1).trans h.rR, by rw [hlen]; exact (hs.2 X hl.2.1 h.ne.2.2.1).trans h.rX, ho, own_same h.ot hs (fun g e => ?_), hok, h.okt, h.tz.base hB h.bs.1, h.tl, h.ne, h.bs, by rw [hlen]; exact h.room, h.n26⟩
  simp only [Value.ownBlock, Option.some.injEq] at e; subst e; exact fun e => h.ne.2.2.2.2.2 e.symm
/-- the row of the labels is written, where it is -/
theorem Rdr.taken {w w' : World} {base R X : Nat} {s : ByteArray} {n : Nat} {uc : Bool} {gb cb gt ct : Nat} {ss ts ts' : List S4} (h : Rdr w base R X s n uc gb cb gt ct ss ts) (hs : Same w w' (fun k => k = gt)) (hB : Below base w w') (ho : OwnSets w' base gt ct ts') (hok : ∀ s ∈ ts', ok4 s) (hlen : ts'.length = ts.length) : Rdr w' base R X s n uc gb cb gt ct ss ts' := by
  have hl := h.lt
  refine ⟨(hs.2 R hl.1 h.ne.2.2.2.1).trans h.rR, by rw [hlen]; exact (hs.2 X hl.2.1 h.ne.2.2.2.2.1).trans h.rX, own_same h.ob hs (fun g e => ?_), ho, h.okb, hok, h.tz.base hB h.bs.1, hlen.trans h.tl, h.ne, h.bs, h.room, h.n26⟩
  simp only [Value.ownBlock, Option.some.injEq] at e; subst e; exact h.ne.2.2.2.2.2
/-- bytes of its text are taken -/
theorem Rdr.rest {w : World} {base R X : Nat} {s : ByteArray} {n : Nat} {uc : Bool} {gb cb gt ct : Nat} {ss ts : List S4} (h : Rdr w base R X s n uc gb cb gt ct ss ts) (s2 : ByteArray) (hs2 : s2.size ≤ s.size) : Rdr (w.setCell ⟨R, 0, none⟩ (.string s2)) base R X s2 n uc gb cb gt ct ss ts := by
  have hl := h.lt
  have hs := Same.set w ⟨R, 0, none⟩ (.string s2)
  refine ⟨xset_row w R 0 _ _ _ _ h.rR, xset_other w R 0 X _ h.rX h.ne.1.symm, own_same h.ob hs (fun g e => ?_), own_same h.ot hs (fun g e => ?_), h.okb, h.okt, h.tz.base ((Below.refl base w).setCell (p := ⟨R, 0, none⟩) h.bs.2.1 _) h.bs.1, h.tl, h.ne, h.bs, by have := h.room; omega, h.n26⟩
  · simp only [Value.ownBlock, Option.some.injEq] at e; subst e; exact h.ne.2.1.symm
  · simp only [Value.ownBlock, Option.some.injEq] at e; subst e; exact h.ne.2.2.2.1.symm
/-- a bracket was not closed -/
theorem Rdr.open_ {w : World} {base R X : Nat} {s : ByteArray} {n : Nat} {uc : Bool} {gb cb gt ct : Nat} {ss ts : List S4} (h : Rdr w base R X s n uc gb cb gt ct ss ts) : Rdr (w.setCell ⟨R, 3, none⟩ (.bool true)) base R X s n true gb cb gt ct ss ts := by
  have hl := h.lt
  have hs := Same.set w ⟨R, 3, none⟩ (.bool true)
  refine ⟨xset_row w R 3 _ _ _ _ h.rR, xset_other w R 3 X _ h.rX h.ne.1.symm, own_same h.ob hs (fun g e => ?_), own_same h.ot hs (fun g e => ?_), h.okb, h.okt, h.tz.base ((Below.refl base w).setCell (p := ⟨R, 3, none⟩) h.bs.2.1 _) h.bs.1, h.tl, h.ne, h.bs, h.room, h.n26⟩
  · simp only [Value.ownBlock, Option.some.injEq] at e; subst e; exact h.ne.2.1.symm
  · simp only [Value.ownBlock, Option.some.injEq] at e; subst e; exact h.ne.2.2.2.1.symm
/-- its cells -/
theorem Rdr.cells {w : World} {base R X : Nat} {s : ByteArray} {n : Nat} {uc : Bool} {gb cb gt ct : Nat} {ss ts : List S4} (h : Rdr w base R X s n uc gb cb gt ct ss ts) : (w.cell? ⟨R, 0, none⟩ = some (.string s) ∧ w.cell? ⟨R, 1, none⟩ = some (.int .i64 (n : Int)) ∧ w.cell? ⟨R, 2, none⟩ = some (.pointer (some ⟨X, 0, none⟩)) ∧ w.cell? ⟨R, 3, none⟩ = some (.bool uc)) ∧ (w.cell? ⟨X, 0, none⟩ = some (.slice (some ⟨gb, 0, none⟩) ss.length cb) ∧ w.cell? ⟨X, 1, none⟩ = some (.slice (some ⟨gt, 0, none⟩) ts.length ct)) ∧ (w.frozen? ⟨R, 0, none⟩ = false ∧ w.frozen? ⟨R, 3, none⟩ = false) ∧ (w.frozen? ⟨X, 0, none⟩ = false) :=
  ⟨⟨by rw [cell_of_row _ _ 0 _ _ _ h.rR]; rfl, by rw [cell_of_row _ _ 1 _ _ _ h.rR]; rfl, by rw [cell_of_row _ _ 2 _ _ _ h.rR]; rfl, by rw [cell_of_row _ _ 3 _ _ _ h.rR]; rfl⟩, ⟨by rw [cell_of_row _ _ 0 _ _ _ h.rX]; rfl, by rw [cell_of_row _ _ 1 _ _ _ h.rX]; rfl⟩, ⟨frozen_of_row _ _ 0 _ _ h.rR, frozen_of_row _ _ 3 _ _ h.rR⟩, frozen_of_row _ _ 0 _ _ h.rX⟩
/-- a part as a value -/
def vp (P : P4) : Value := .agg #[.int .u64 (P.1.1 : Int), .int .u64 (P.1.2.1 : Int), .int .u64 (P.1.2.2.1 : Int), .int .u64 (P.1.2.2.2 : Int), .int .u64 (P.2.1.1 : Int), .int .u64 (P.2.1.2.1 : Int), .int .u64 (P.2.1.2.2.1 : Int), .int .u64 (P.2.1.2.2.2 : Int), .bool P.2.2]
end Go.Proofs.YtphjbbbnbmafnabGreatDoor.G

namespace Go.Proofs.YtphjbbbnbmafnabGreatDoor.G
open Go.RowKit Go.Shelf Go.Proofs.YtphjbbbnbmafnabGreatDoor.RxM

/-- nine cells as they lie -/
abbrev c9 (P : P4) : Array Value := #[.int .u64 (P.1.1 : Int), .int .u64 (P.1.2.1 : Int), .int .u64 (P.1.2.2.1 : Int), .int .u64 (P.1.2.2.2 : Int), .int .u64 (P.2.1.1 : Int), .int .u64 (P.2.1.2.1 : Int), .int .u64 (P.2.1.2.2.1 : Int), .int .u64 (P.2.1.2.2.2 : Int), .bool P.2.2]
theorem row9 {w : World} {B : Nat} {t : TypeId} {a0 a1 a2 a3 a4 a5 a6 a7 a8 : Value} (h : w.heap[B]? = some (.cells #[a0, a1, a2, a3, a4, a5, a6, a7, a8] t (0, 0))) :
    (w.cell? ⟨B, 0, none⟩ = some a0 ∧ w.cell? ⟨B, 1, none⟩ = some a1 ∧ w.cell? ⟨B, 2, none⟩ = some a2 ∧ w.cell? ⟨B, 3, none⟩ = some a3 ∧ w.cell? ⟨B, 4, none⟩ = some a4 ∧ w.cell? ⟨B, 5, none⟩ = some a5 ∧ w.cell? ⟨B, 6, none⟩ = some a6 ∧ w.cell? ⟨B, 7, none⟩ = some a7 ∧ w.cell? ⟨B, 8, none⟩ = some a8) ∧
    (w.frozen? ⟨B, 0, none⟩ = false ∧ w.frozen? ⟨B, 1, none⟩ = false ∧ w.frozen? ⟨B, 2, none⟩ = false ∧ w.frozen? ⟨B, 3, none⟩ = false ∧ w.frozen? ⟨B, 4, none⟩ = false ∧ w.frozen? ⟨B, 5, none⟩ = false ∧ w.frozen? ⟨B, 6, none⟩ = false ∧ w.frozen? ⟨B, 7, none⟩ = false ∧ w.frozen? ⟨B, 8, none⟩ = false) :=
  ⟨⟨by rw [cell_of_row _ _ 0 _ _ _ h]; rfl, by rw [cell_of_row _ _ 1 _ _ _ h]; rfl, by rw [cell_of_row _ _ 2 _ _ _ h]; rfl, by rw [cell_of_row _ _ 3 _ _ _ h]; rfl, by rw [cell_of_row _ _ 4 _ _ _ h]; rfl, by rw [cell_of_row _ _ 5 _ _ _ h]; rfl, by rw [cell_of_row _ _ 6 _ _ _ h]; rfl, by rw [cell_of_row _ _ 7 _ _ _ h]; rfl, by rw [cell_of_row _ _ 8 _ _ _ h]; rfl⟩,
    frozen_of_row _ _ 0 _ _ h, frozen_of_row _ _ 1 _ _ h, frozen_of_row _ _ 2 _ _ h, frozen_of_row _ _ 3 _ _ h, frozen_of_row _ _ 4 _ _ h, frozen_of_row _ _ 5 _ _ h, frozen_of_row _ _ 6 _ _ h, frozen_of_row _ _ 7 _ _ h, frozen_of_row _ _ 8 _ _ h⟩
/-- nine cells are written -/
abbrev put9 (W : World) (B : Nat) (x0 x1 x2 x3 x4 x5 x6 x7 x8 : Value) : World := ((((((((W.setCell ⟨B, 0, none⟩ x0).setCell ⟨B, 1, none⟩ x1).setCell ⟨B, 2, none⟩ x2).setCell ⟨B, 3, none⟩ x3).setCell ⟨B, 4, none⟩ x4).setCell ⟨B, 5, none⟩ x5).setCell ⟨B, 6, none⟩ x6).setCell ⟨B, 7, none⟩ x7).setCell ⟨B, 8, none⟩ x8
theorem set9 {W : World} {B : Nat} {t : TypeId} {a0 a1 a2 a3 a4 a5 a6 a7 a8 : Value} (h : W.heap[B]? = some (.cells #[a0, a1, a2, a3, a4, a5, a6, a7, a8] t (0, 0))) (x0 x1 x2 x3 x4 x5 x6 x7 x8 : Value) : (put9 W B x0 x1 x2 x3 x4 x5 x6 x7 x8).heap[B]? = some (.cells #[x0, x1, x2, x3, x4, x5, x6, x7, x8] t (0, 0)) := by
  have k0 : (W.setCell ⟨B, 0, none⟩ x0).heap[B]? = some (.cells #[x0, a1, a2, a3, a4, a5, a6, a7, a8] t (0, 0)) := xset_row _ B 0 _ _ _ x0 h
  have k1 : ((W.setCell ⟨B, 0, none⟩ x0).setCell ⟨B, 1, none⟩ x1).heap[B]? = some (.cells #[x0, x1, a2, a3, a4, a5, a6, a7, a8] t (0, 0)) := xset_row _ B 1 _ _ _ x1 k0
  have k2 : (((W.setCell ⟨B, 0, none⟩ x0).setCell ⟨B, 1, none⟩ x1).setCell ⟨B, 2, none⟩ x2).heap[B]? = some (.cells #[x0, x1, x2, a3, a4, a5, a6, a7, a8] t (0, 0)) := xset_row _ B 2 _ _ _ x2 k1
  have k3 : ((((W.setCell ⟨B, 0, none⟩ x0).setCell ⟨B, 1, none⟩ x1).setCell ⟨B, 2, none⟩ x2).setCell ⟨B, 3, none⟩ x3).heap[B]? = some (.cells #[x0, x1, x2, x3, a4, a5, a6, a7, a8] t (0, 0)) := xset_row _ B 3 _ _ _ x3 k2
  have k4 : (((((W.setCell ⟨B, 0, none⟩ x0).setCell ⟨B, 1, none⟩ x1).setCell ⟨B, 2, none⟩ x2).setCell ⟨B, 3, none⟩ x3).setCell ⟨B, 4, none⟩ x4).heap[B]? = some (.cells #[x0, x1, x2, x3, x4, a5, a6, a7, a8] t (0, 0)) := xset_row _ B 4 _ _ _ x4 k3
  have k5 : ((((((W.setCell ⟨B, 0, none⟩ x0).setCell ⟨B, 1, none⟩ x1).setCell ⟨B, 2, none⟩ x2).setCell ⟨B, 3, none⟩ x3).setCell ⟨B, 4, none⟩ x4).setCell ⟨B, 5, none⟩ x5).heap[B]? = some (.cells #[x0, x1, x2, x3, x4, x5, a6, a7, a8] t (0, 0)) := xset_row _ B 5 _ _ _ x5 k4
  have k6 : (((((((W.setCell ⟨B, 0, none⟩ x0).setCell ⟨B, 1, none⟩ x1).setCell ⟨B, 2, none⟩ x2).setCell ⟨B, 3, none⟩ x3).setCell ⟨B, 4, none⟩ x4).setCell ⟨B, 5, none⟩ x5).setCell ⟨B, 6, none⟩ x6).heap[B]? = some (.cells #[x0, x1, x2, x3, x4, x5, x6, a7, a8] t (0, 0)) := xset_row _ B 6 _ _ _ x6 k5
  have k7 : ((((((((W.setCell ⟨B, 0, none⟩ x0).setCell ⟨B, 1, none⟩ x1).setCell ⟨B, 2, none⟩ x2).setCell ⟨B, 3, none⟩ x3).setCell ⟨B, 4, none⟩ x4).setCell ⟨B, 5, none⟩ x5).setCell ⟨B, 6, none⟩ x6).setCell ⟨B, 7, none⟩ x7).heap[B]? = some (.cells #[x0, x1, x2, x3, x4, x5, x6, x7, a8] t (0, 0)) := xset_row _ B 7 _ _ _ x7 k6
  have k8 : (((((((((W.setCell ⟨B, 0, none⟩ x0).setCell ⟨B, 1, none⟩ x1).setCell ⟨B, 2, none⟩ x2).setCell ⟨B, 3, none⟩ x3).setCell ⟨B, 4, none⟩ x4).setCell ⟨B, 5, none⟩ x5).setCell ⟨B, 6, none⟩ x6).setCell ⟨B, 7, none⟩ x7).setCell ⟨B, 8, none⟩ x8).heap[B]? = some (.cells #[x0, x1, x2, x3, x4, x5, x6, x7, x8] t (0, 0)) := xset_row _ B 8 _ _ _ x8 k7
  exact k8
theorem same9 (W : World) (B : Nat) (x0 x1 x2 x3 x4 x5 x6 x7 x8 : Value) : Same W (put9 W B x0 x1 x2 x3 x4 x5 x6 x7 x8) (fun k => k = B) :=
  (((((((((Same.set W ⟨B, 0, none⟩ x0).trans (Same.set _ ⟨B, 1, none⟩ x1)).trans (Same.set _ ⟨B, 2, none⟩ x2)).trans (Same.set _ ⟨B, 3, none⟩ x3)).trans (Same.set _ ⟨B, 4, none⟩ x4)).trans (Same.set _ ⟨B, 5, none⟩ x5)).trans (Same.set _ ⟨B, 6, none⟩ x6)).trans (Same.set _ ⟨B, 7, none⟩ x7)).trans (Same.set _ ⟨B, 8, none⟩ x8)).mono fun k _ e => by rcases e with (((((((e | e) | e) | e) | e) | e) | e) | e) | e <;> exact e
theorem below9 {n : Nat} {A W : World} {B : Nat} (h : Below n A W) (hB : n ≤ B) (x0 x1 x2 x3 x4 x5 x6 x7 x8 : Value) : Below n A (put9 W B x0 x1 x2 x3 x4 x5 x6 x7 x8) :=
  ((((((((h.setCell (p := ⟨B, 0, none⟩) hB x0).setCell (p := ⟨B, 1, none⟩) hB x1).setCell (p := ⟨B, 2, none⟩) hB x2).setCell (p := ⟨B, 3, none⟩) hB x3).setCell (p := ⟨B, 4, none⟩) hB x4).setCell (p := ⟨B, 5, none⟩) hB x5).setCell (p := ⟨B, 6, none⟩) hB x6).setCell (p := ⟨B, 7, none⟩) hB x7).setCell (p := ⟨B, 8, none⟩) hB x8
/-- a block that was not written -/
theorem Same.row {w w' : World} {S : Nat → Prop} (h : Same w w' S) {k : Nat} {o : Obj} (hk : w.heap[k]? = some o) (hn : ¬ S k) : w'.heap[k]? = some o := (h.2 k (Array.getElem?_eq_some_iff.1 hk).1 hn).trans hk
set_option maxRecDepth 100000 in
set_option maxHeartbeats 8000000 in
theorem starred_any (base R X : Nat) (s : ByteArray) (n : Nat) (uc : Bool) (gb cb gt ct : Nat) (ss ts : List S4) (P : P4) (h1 : ok4 P.1) (h2 : ok4 P.2.1) (w : World) (h : Rdr w base R X s n uc gb cb gt ct ss ts) (hin : ∀ p, mem4 P.2.1 p = true → p < ss.length) :
    Calls Tryz.prog 108 #[.pointer (some ⟨R, 0, none⟩), vp P] w fun e w' => e = .returned (vp (star4 P)) ∧ Rdr w' base R X s n uc gb cb gt ct (linkAll P.1 ss (plTo P.2.1.1 P.2.1.2.1 P.2.1.2.2.1 P.2.1.2.2.2 4)) ts ∧ Same w w' (fun k => k = gb) ∧ Below base w w' := by
  have hl := h.lt
  have hbs := h.bs
  obtain ⟨W0, hW0⟩ : ∃ W0, W0 = (w.alloc (.cells (c9 P) 118)).alloc (.cells #[.int .u64 0, .int .u64 0, .int .u64 0, .int .u64 0, .int .u64 0, .int .u64 0, .int .u64 0, .int .u64 0, .bool false] 118) := ⟨_, rfl⟩
  have hJ : Below w.heap.size w W0 := by rw [hW0]; exact xal (below1 _ _)
  have r0 : W0.heap[w.heap.size]? = some (.cells (c9 P) 118 (0, 0)) := by rw [hW0]; exact heap_keep (below1 _ _) (heap_alloc_new w _)
  have r1 : W0.heap[w.heap.size + 1]? = some (.cells #[.int .u64 0, .int .u64 0, .int .u64 0, .int .u64 0, .int .u64 0, .int .u64 0, .int .u64 0, .int .u64 0, .bool false] 118 (0, 0)) := by
    rw [hW0]
    have := heap_alloc_new (w.alloc (.cells (c9 P) 118)) (.cells #[.int .u64 0, .int .u64 0, .int .u64 0, .int .u64 0, .int .u64 0, .int .u64 0, .int .u64 0, .int .u64 0, .bool false] 118)
    rwa [World.size_alloc] at this
  have hR0 := h.below hJ
  obtain ⟨⟨f0, f1, f2, f3⟩, ⟨l0, l1, l2, l3⟩, e⟩ := P
  have HLk : Hid (Calls Tryz.prog 86 #[.pointer (some ⟨R, 0, none⟩), .agg #[.int .u64 (l0 : Int), .int .u64 (l1 : Int), .int .u64 (l2 : Int), .int .u64 (l3 : Int)], .agg #[.int .u64 (f0 : Int), .int .u64 (f1 : Int), .int .u64 (f2 : Int), .int .u64 (f3 : Int)]] W0 _) :=
    link_any R X base gb cb ss hR0.okb (l0, l1, l2, l3) (f0, f1, f2, f3) h2 h1 W0 hR0.cells.1.2.2.1 hR0.cells.2.1.1 hR0.ne.2.1 hR0.ne.2.2.1 hR0.ob (fun p hp => hin p (mem_plTo.1 hp)) hR0.tz hbs.1
  have HR0 : Hid _ := hR0
  have HJ : Hid _ := hJ
  have HH : Hid _ := h
  have HR1 : Hid _ := r1
  have HRa : Hid _ := r0
  have HO : Hid (_ ∧ _) := ⟨h1, h2⟩
  obtain ⟨⟨c0, c1, c2, c3, c4, c5, c6, c7, c8⟩, _⟩ := row9 r0
  clear hR0 hJ h r1 r0 h1 h2 hin
  simp only [vp, star4]
  go_enter Tryz.func108, Tryz.ntmps108
  go_wp2_with fail
  rw [← hW0]
  have HW0 : Hid _ := hW0
  clear hW0
  go_wp2_with fail
  refine HLk.out.mono ?_
  rintro e1 w1 ⟨rfl, ho, hs, hB⟩
  have q0 := hs.row HRa.out (by omega)
  have q1 := hs.row HR1.out (by omega)
  have k0 : (w1.setCell ⟨w.heap.size, 8, none⟩ (.bool true)).heap[w.heap.size]? = some (.cells #[.int .u64 (f0 : Int), .int .u64 (f1 : Int), .int .u64 (f2 : Int), .int .u64 (f3 : Int), .int .u64 (l0 : Int), .int .u64 (l1 : Int), .int .u64 (l2 : Int), .int .u64 (l3 : Int), .bool true] 118 (0, 0)) := xset_row w1 w.heap.size 8 _ _ _ (.bool true) q0
  have k1 := xset_other w1 w.heap.size 8 (w.heap.size + 1) (.bool true) q1 (by omega)
  have z8 := (row9 q0).2.2.2.2.2.2.2.2.2
  have hB2 : Below base w (w1.setCell ⟨w.heap.size, 8, none⟩ (.bool true)) := ((HJ.out.mono (by omega)).trans hB).setCell (p := ⟨w.heap.size, 8, none⟩) (show base ≤ w.heap.size by omega) _
  have hs2 : Same w (w1.setCell ⟨w.heap.size, 8, none⟩ (.bool true)) (fun k => k = gb) := (((Same.below HJ.out).trans hs).trans (Same.set w1 ⟨w.heap.size, 8, none⟩ (.bool true))).mono fun k hk e => by
    rcases e with (e | e) | e
    · exact e.elim
    · exact e
    · simp only at e; omega
  have hR2 : Rdr (w1.setCell ⟨w.heap.size, 8, none⟩ (.bool true)) base R X s n uc gb cb gt ct (linkAll (f0, f1, f2, f3) ss (plTo l0 l1 l2 l3 4)) ts := (HR0.out.linked hs hB ho (linkAll_ok HO.out.1 HR0.out.okb _) (linkAll_len _ _ _)).same (Same.set w1 ⟨w.heap.size, 8, none⟩ (.bool true)) ((Below.refl base w1).setCell (p := ⟨w.heap.size, 8, none⟩) (show base ≤ w.heap.size by omega) _) (fun k hk e => by simp only at e; rcases hk with hk | hk | hk | hk <;> omega)
  have HS2 : Hid (_ ∧ _ ∧ _ ∧ _) := ⟨hR2, hs2, hB2, k1⟩
  obtain ⟨⟨d0, d1, d2, d3, d4, d5, d6, d7, d8⟩, _⟩ := row9 q0
  obtain ⟨_, u0, u1, u2, u3, u4, u5, u6, u7, u8⟩ := row9 q1
  clear hR2 hs2 hB2 ho hs hB q0 q1
  obtain ⟨_, t0, t1, t2, t3, t4, t5, t6, t7, t8⟩ := row9 k1
  clear k0 k1 c0 c1 c2 c3 c4 c5 c6 c7 c8
  go_wp2
  have hB3 := below9 (HS2.out.2.2.1) (B := w.heap.size + 1) (by omega) (.int .u64 (f0 : Int)) (.int .u64 (f1 : Int)) (.int .u64 (f2 : Int)) (.int .u64 (f3 : Int)) (.int .u64 (l0 : Int)) (.int .u64 (l1 : Int)) (.int .u64 (l2 : Int)) (.int .u64 (l3 : Int)) (.bool true)
  have hs3 := same9 (w1.setCell ⟨w.heap.size, 8, none⟩ (.bool true)) (w.heap.size + 1) (.int .u64 (f0 : Int)) (.int .u64 (f1 : Int)) (.int .u64 (f2 : Int)) (.int .u64 (f3 : Int)) (.int .u64 (l0 : Int)) (.int .u64 (l1 : Int)) (.int .u64 (l2 : Int)) (.int .u64 (l3 : Int)) (.bool true)
  have hx3 := below9 (Below.refl base (w1.setCell ⟨w.heap.size, 8, none⟩ (.bool true))) (B := w.heap.size + 1) (by omega) (.int .u64 (f0 : Int)) (.int .u64 (f1 : Int)) (.int .u64 (f2 : Int)) (.int .u64 (f3 : Int)) (.int .u64 (l0 : Int)) (.int .u64 (l1 : Int)) (.int .u64 (l2 : Int)) (.int .u64 (l3 : Int)) (.bool true)
  refine bodyPost_ret (results_cell_row rfl _ _ (w.heap.size + 1) _ _ (0, 0) _ rfl (set9 HS2.out.2.2.2 _ _ _ _ _ _ _ _ _) rfl rfl rfl) rfl ⟨rfl, HS2.out.1.same hs3 hx3 (fun k hk e => by rcases hk with hk | hk | hk | hk <;> omega), (HS2.out.2.1.trans hs3).mono (fun k hk e => by rcases e with e | e; exact e; omega), hB3⟩
end Go.Proofs.YtphjbbbnbmafnabGreatDoor.G
