/-
  What the levels of a sequence say, without the program: a list of numbers parted by a bit at each level, highest bit first; where a place or a span of a level lies in the next one; what is left of a span when all bits were asked. No condition but that the numbers are below 2^B.
-/
import Derived.Test.YtphjbbbnbmafnabGreatDoorMade
namespace Go.Proofs.YtphjbbbnbmafnabGreatDoor

/-- those whose bit is 0 ahead of those whose bit is 1 -/
def part (b : Nat) (l : List Nat) : List Nat := l.filter (fun x => x.testBit b == false) ++ l.filter (fun x => x.testBit b == true)
/-- the list as level d has it -/
def lev (B : Nat) (l : List Nat) : Nat → List Nat
  | 0 => l
  | d + 1 => part (B - 1 - d) (lev B l d)
/-- a level's vector of bits -/
def bitf (l : List Nat) (b i : Nat) : Bool := (l.getD i 0).testBit b
/-- where the next level has what is at the place i -/
def down (f : Nat → Bool) (n : Nat) (one : Bool) (i : Nat) : Nat := if one then n - cnt f n + cnt f i else i - cnt f i
/-- where the list has the number c -/
def eqf (l : List Nat) (c i : Nat) : Bool := l[i]? == some c
/-- the numbers from a up to b are s -/
def Seg (L : List Nat) (a b : Nat) (s : List Nat) : Prop := ∃ l1 l3, L = l1 ++ s ++ l3 ∧ a = l1.length ∧ b = l1.length + s.length

theorem filter_split (b : Nat) (l : List Nat) : (l.filter (fun x => x.testBit b == false)).length + (l.filter (fun x => x.testBit b == true)).length = l.length := by
  induction l with
  | nil => rfl
  | cons x r ih =>
    rw [List.filter_cons, List.filter_cons]
    cases x.testBit b <;> simp at ih ⊢ <;> omega
theorem part_length (b : Nat) (l : List Nat) : (part b l).length = l.length := by
  unfold part; rw [List.length_append]; exact filter_split b l
theorem lev_length (B : Nat) (l : List Nat) (d : Nat) : (lev B l d).length = l.length := by
  induction d with
  | zero => rfl
  | succ d ih => unfold lev; rw [part_length, ih]
theorem part_mem {b : Nat} {l : List Nat} {x : Nat} (h : x ∈ part b l) : x ∈ l := by
  unfold part at h
  rw [List.mem_append, List.mem_filter, List.mem_filter] at h
  rcases h with h | h <;> exact h.1
theorem lev_mem {B : Nat} {l : List Nat} {d x : Nat} (h : x ∈ lev B l d) : x ∈ l := by
  induction d with
  | zero => exact h
  | succ d ih => exact ih (part_mem h)
theorem bitf_out (l : List Nat) (b i : Nat) (h : l.length ≤ i) : bitf l b i = false := by
  unfold bitf; rw [List.getD_eq_getElem?_getD, List.getElem?_eq_none h]; simp

/-- counting by places, and counting in a list -/
theorem cnt_list (g : Nat → Bool) (p : Nat → Bool) (l : List Nat) (h : ∀ i (hi : i < l.length), g i = p l[i]) : ∀ i, i ≤ l.length → cnt g i = ((l.take i).filter p).length := by
  intro i
  induction i with
  | zero => intro _; rfl
  | succ i ih =>
    intro hi
    rw [cnt_succ, ih (by omega), h i (by omega), List.take_add_one, List.getElem?_eq_getElem (by omega)]
    rw [List.filter_append, List.length_append]
    congr 1
    simp only [Option.toList_some, List.filter_cons, List.filter_nil]
    cases p l[i] <;> simp
theorem cnt_bitf (l : List Nat) (b i : Nat) (h : i ≤ l.length) : cnt (bitf l b) i = ((l.take i).filter (fun x => x.testBit b == true)).length :=
  cnt_list _ (fun x => x.testBit b == true) l (fun i hi => by unfold bitf; rw [List.getD_eq_getElem?_getD, List.getElem?_eq_getElem hi]; simp) i h
theorem cnt_eqf (l : List Nat) (c i : Nat) (h : i ≤ l.length) : cnt (eqf l c) i = ((l.take i).filter (fun x => x == c)).length :=
  cnt_list _ (fun x => x == c) l (fun i hi => by unfold eqf; rw [List.getElem?_eq_getElem hi]; simp) i h

/-- THE NEXT LEVEL: a span's zeros (its ones) lie there side by side, in their order. -/
theorem seg_down {L : List Nat} {a b : Nat} {s : List Nat} (bt : Nat) (h : Seg L a b s) (one : Bool) :
    Seg (part bt L) (down (bitf L bt) L.length one a) (down (bitf L bt) L.length one b) (s.filter (fun x => x.testBit bt == one)) := by
  obtain ⟨l1, l3, rfl, rfl, rfl⟩ := h
  have c1 : cnt (bitf (l1 ++ s ++ l3) bt) l1.length = (l1.filter (fun x => x.testBit bt == true)).length := by
    rw [cnt_bitf _ _ _ (by simp only [List.length_append]; omega), List.append_assoc, List.take_left]
  have c2 : cnt (bitf (l1 ++ s ++ l3) bt) (l1.length + s.length) = (l1.filter (fun x => x.testBit bt == true)).length + (s.filter (fun x => x.testBit bt == true)).length := by
    rw [cnt_bitf _ _ _ (by simp only [List.length_append]; omega), ← List.length_append, List.take_left, List.filter_append, List.length_append]
  have c3 : cnt (bitf (l1 ++ s ++ l3) bt) (l1 ++ s ++ l3).length = (l1.filter (fun x => x.testBit bt == true)).length + (s.filter (fun x => x.testBit bt == true)).length + (l3.filter (fun x => x.testBit bt == true)).length := by
    rw [cnt_bitf _ _ _ (Nat.le_refl _), List.take_length, List.filter_append, List.filter_append, List.length_append, List.length_append]
  have c4 : (l1 ++ s ++ l3).length = l1.length + s.length + l3.length := by simp only [List.length_append]
  have e1 := filter_split bt l1
  have e2 := filter_split bt s
  have e3 := filter_split bt l3
  cases one
  · refine ⟨l1.filter (fun x => x.testBit bt == false), l3.filter (fun x => x.testBit bt == false) ++ (l1 ++ s ++ l3).filter (fun x => x.testBit bt == true), ?_, ?_, ?_⟩
    · unfold part; simp only [List.filter_append, List.append_assoc]
    · unfold down; rw [if_neg (by simp), c1]; omega
    · unfold down; rw [if_neg (by simp), c2]; omega
  · refine ⟨(l1 ++ s ++ l3).filter (fun x => x.testBit bt == false) ++ l1.filter (fun x => x.testBit bt == true), l3.filter (fun x => x.testBit bt == true), ?_, ?_, ?_⟩
    · unfold part; simp only [List.filter_append, List.append_assoc]
    · unfold down; rw [if_pos rfl, c3, c1]; simp only [List.filter_append, List.length_append]; omega
    · unfold down; rw [if_pos rfl, c3, c2]; simp only [List.filter_append, List.length_append]; omega

/-- a place, led down d levels by the bits of c -/
def led (B : Nat) (l : List Nat) (c : Nat) : Nat → Nat → Nat
  | 0, t => t
  | d + 1, t => down (bitf (lev B l d) (B - 1 - d)) l.length (c.testBit (B - 1 - d)) (led B l c d t)

theorem pre_step (x h : Nat) : x / 2 ^ h = 2 * (x / 2 ^ (h + 1)) + (x.testBit h).toNat := by
  have e : x / 2 ^ (h + 1) = x / 2 ^ h / 2 := by rw [Nat.pow_succ, Nat.div_div_eq_div_mul]
  rw [e, Nat.testBit_eq_decide_div_mod_eq]
  have := Nat.div_add_mod (x / 2 ^ h) 2
  have h2 : x / 2 ^ h % 2 < 2 := Nat.mod_lt _ (by decide)
  rcases (show x / 2 ^ h % 2 = 0 ∨ x / 2 ^ h % 2 = 1 by omega) with h3 | h3
  · rw [h3] at this ⊢; simp; omega
  · rw [h3] at this ⊢; simp; omega
theorem like_step (x P h : Nat) (o : Bool) : ((x / 2 ^ (h + 1) == P) && (x.testBit h == o)) = (x / 2 ^ h == 2 * P + o.toNat) := by
  rw [pre_step x h]
  generalize x / 2 ^ (h + 1) = y
  rw [Bool.eq_iff_iff, Bool.and_eq_true, beq_iff_eq, beq_iff_eq, beq_iff_eq]
  cases x.testBit h <;> cases o <;> simp only [Bool.toNat_false, Bool.toNat_true, reduceCtorEq, and_true, and_false, false_iff] <;> omega
theorem filter_step (s : List Nat) (P h : Nat) (o : Bool) : (s.filter (fun x => x / 2 ^ (h + 1) == P)).filter (fun x => x.testBit h == o) = s.filter (fun x => x / 2 ^ h == 2 * P + o.toNat) := by
  rw [List.filter_filter]
  congr 1
  funext x
  rw [← like_step, Bool.and_comm]
theorem less_step (x P h : Nat) (o : Bool) : (decide (x / 2 ^ h < 2 * P + o.toNat)).toNat = (decide (x / 2 ^ (h + 1) < P)).toNat + (o && ((x / 2 ^ (h + 1) == P) && (x.testBit h == false))).toNat := by
  rw [pre_step x h]
  generalize x / 2 ^ (h + 1) = y
  rcases Nat.lt_trichotomy y P with e | e | e
  · have h1 : 2 * y + (x.testBit h).toNat < 2 * P + o.toNat := by have := Bool.toNat_le (x.testBit h); omega
    have h2 : (y == P) = false := by simp; omega
    simp [h1, h2, e]
  · subst e
    cases x.testBit h <;> cases o <;> simp
  · have h1 : ¬ 2 * y + (x.testBit h).toNat < 2 * P + o.toNat := by have := Bool.toNat_le o; omega
    have h2 : (y == P) = false := by simp; omega
    have h3 : ¬ y < P := by omega
    simp [h1, h2, h3]
theorem below_step (s : List Nat) (P h : Nat) (o : Bool) : (s.filter (fun x => decide (x / 2 ^ h < 2 * P + o.toNat))).length = (s.filter (fun x => decide (x / 2 ^ (h + 1) < P))).length + (if o then ((s.filter (fun x => x / 2 ^ (h + 1) == P)).filter (fun x => x.testBit h == false)).length else 0) := by
  induction s with
  | nil => cases o <;> rfl
  | cons x r ih =>
    have e := less_step x P h o
    rw [List.filter_filter] at ih ⊢
    simp only [List.filter_cons]
    cases o
    · simp only [Bool.false_eq_true, if_false, Nat.add_zero, Bool.false_and, Bool.toNat_false] at ih e ⊢
      generalize decide (x / 2 ^ h < 2 * P) = u at e ⊢
      generalize decide (x / 2 ^ (h + 1) < P) = v at e ⊢
      cases u <;> cases v <;> simp only [Bool.toNat_false, Bool.toNat_true, Bool.false_eq_true, if_true, if_false, List.length_cons] at e ⊢ <;> omega
    · simp only [if_true, Bool.true_and, Bool.toNat_true] at ih e ⊢
      rw [Bool.and_comm] at e
      generalize decide (x / 2 ^ h < 2 * P + 1) = u at e ⊢
      generalize decide (x / 2 ^ (h + 1) < P) = v at e ⊢
      generalize ((x.testBit h == false) && (x / 2 ^ (h + 1) == P)) = z at e ⊢
      cases u <;> cases v <;> cases z <;> simp only [Bool.toNat_false, Bool.toNat_true, Bool.false_eq_true, if_true, if_false, List.length_cons] at e ⊢ <;> omega

/-- A SPAN LED DOWN: what is left of it has the highest bits of c. -/
theorem seg_led {B : Nat} {l : List Nat} {a b : Nat} {s : List Nat} (c : Nat) (h : Seg l a b s) (hc : c < 2 ^ B) (hl : ∀ x ∈ l, x < 2 ^ B) : ∀ d, d ≤ B → Seg (lev B l d) (led B l c d a) (led B l c d b) (s.filter (fun x => x / 2 ^ (B - d) == c / 2 ^ (B - d))) := by
  intro d
  induction d with
  | zero =>
    intro _
    have e : s.filter (fun x => x / 2 ^ (B - 0) == c / 2 ^ (B - 0)) = s := by
      rw [List.filter_eq_self]
      intro x hx
      obtain ⟨l1, l3, rfl, _, _⟩ := h
      have := hl x (by simp [hx])
      rw [Nat.sub_zero, Nat.div_eq_of_lt this, Nat.div_eq_of_lt hc]; rfl
    rw [e]; exact h
  | succ d ih =>
    intro hd
    have h1 := seg_down (B - 1 - d) (ih (by omega)) (c.testBit (B - 1 - d))
    rw [show B - d = (B - 1 - d) + 1 by omega, filter_step, lev_length] at h1
    rw [show B - (d + 1) = B - 1 - d by omega, pre_step c (B - 1 - d)]
    exact h1
theorem filter_last (s : List Nat) (c : Nat) : s.filter (fun x => x / 2 ^ 0 == c / 2 ^ 0) = s.filter (fun x => x == c) := by simp
theorem seg_len {L : List Nat} {a b : Nat} {s : List Nat} (h : Seg L a b s) : b = a + s.length ∧ b ≤ L.length := by
  obtain ⟨l1, l3, rfl, rfl, rfl⟩ := h
  simp
theorem seg_of (l : List Nat) (a b : Nat) (h1 : a ≤ b) (h2 : b ≤ l.length) : Seg l a b ((l.take b).drop a) := by
  refine ⟨l.take a, l.drop b, ?_, ?_, ?_⟩
  · have e : l.take a ++ (l.take b).drop a = l.take b := by
      have := List.take_append_drop a (l.take b)
      rwa [List.take_take, Nat.min_eq_left h1] at this
    rw [e, List.take_append_drop]
  · simp; omega
  · simp; omega
/-- how often the number c is from a up to b -/
theorem led_len {B : Nat} {l : List Nat} {a b : Nat} (c : Nat) (hc : c < 2 ^ B) (hl : ∀ x ∈ l, x < 2 ^ B) (h1 : a ≤ b) (h2 : b ≤ l.length) :
    led B l c B b = led B l c B a + (((l.take b).drop a).filter (fun x => x == c)).length ∧ led B l c B b ≤ l.length := by
  have h := seg_led c (seg_of l a b h1 h2) hc hl B (Nat.le_refl _)
  rw [Nat.sub_self, filter_last] at h
  have := seg_len h
  rw [lev_length] at this
  exact this
theorem led_le {B : Nat} {l : List Nat} {a b : Nat} (c : Nat) (hc : c < 2 ^ B) (hl : ∀ x ∈ l, x < 2 ^ B) (h1 : a ≤ b) (h2 : b ≤ l.length) (d : Nat) (hd : d ≤ B) :
    led B l c d a ≤ led B l c d b ∧ led B l c d b ≤ l.length := by
  have := seg_len (seg_led c (seg_of l a b h1 h2) hc hl d hd)
  rw [lev_length] at this
  omega
theorem led_rank {B : Nat} {l : List Nat} (c : Nat) (hc : c < 2 ^ B) (hl : ∀ x ∈ l, x < 2 ^ B) (i : Nat) (h2 : i ≤ l.length) :
    led B l c B i = led B l c B 0 + cnt (eqf l c) i := by
  rw [(led_len c hc hl (Nat.zero_le i) h2).1, List.drop_zero, cnt_eqf l c i h2]

/-- a number's own place, led down by its own bits -/
theorem led_at {B : Nat} {l : List Nat} {t c : Nat} (ht : l[t]? = some c) (hl : ∀ x ∈ l, x < 2 ^ B) (d : Nat) (hd : d ≤ B) : (lev B l d)[led B l c d t]? = some c ∧ led B l c d t < l.length := by
  have hlt : t < l.length := by
    rcases Nat.lt_or_ge t l.length with h | h
    · exact h
    · rw [List.getElem?_eq_none h] at ht; cases ht
  have hm : c ∈ l := List.mem_of_getElem? ht
  have e : (l.take (t + 1)).drop t = [c] := by
    rw [List.take_add_one, ht]
    simp [Nat.min_eq_left (Nat.le_of_lt hlt)]
  have h := seg_led c (seg_of l t (t + 1) (by omega) (by omega)) (hl c hm) hl d hd
  rw [e] at h
  have e2 : [c].filter (fun x => x / 2 ^ (B - d) == c / 2 ^ (B - d)) = [c] := by simp
  rw [e2] at h
  obtain ⟨l1, l3, h1, h3, h4⟩ := h
  have h5 := congrArg List.length h1
  rw [lev_length] at h5
  rw [h1, h3]
  refine ⟨by simp, ?_⟩
  simp at h5; omega
theorem bitf_at {l : List Nat} {b t c : Nat} (h : l[t]? = some c) : bitf l b t = c.testBit b := by
  unfold bitf; rw [List.getD_eq_getElem?_getD, h]; rfl

/-- THE WAY BACK UP: the one place of a level that is led to where one came from. -/
theorem up_uniq {f : Nat → Bool} {one : Bool} {s t : Nat} (hs : f s = one) (ht : f t = one) (h : cnt (side f one) s = cnt (side f one) t) : s = t :=
  cnt_uniq (side f one) (by simp [side, hs]) (by simp [side, ht]) h
theorem down_side {f : Nat → Bool} {n : Nat} (one : Bool) (i : Nat) : down f n one i = (if one then n - cnt f n else 0) + cnt (side f one) i := by
  unfold down
  cases one
  · have := cnt_side f i
    simp; omega
  · simp [side_true]
end Go.Proofs.YtphjbbbnbmafnabGreatDoor
