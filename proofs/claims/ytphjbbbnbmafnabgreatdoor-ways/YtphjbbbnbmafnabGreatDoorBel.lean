/-
  What the levels of a sequence say, without the program: a list of numbers parted by a bit at each level, highest bit first; where a place or a span of a level lies in the next one; what is left of a span when all bits were asked. No condition but that the numbers are below 2^B.
  What a sequence asks of a level's vector of bits that lies in memory as said: isOne, zeros, down, up, narrow answer what they say (places of that vector), and the spans' two small functions isSpan and long; nothing that was there is written.
  How many numbers of a stretch of a list are below one, and how many are it; that the k-th least of them is one alone. No condition.
-/
import Derived.Test.YtphjbbbnbmafnabGreatDoorMade
import Derived.Deep.RegionHeld
namespace Go.Proofs.YtphjbbbnbmafnabGreatDoor

/-- those whose bit is 0 ahead of those whose bit is 1 -/
def part (b : Nat) (l : List Nat) : List Nat := l.filter (fun x => x.testBit b == false) ++ l.filter (fun x => x.testBit b == true)
/-- the list as level d has it -/
def lev (B : Nat) (l : List Nat) : Nat → List Nat
  | 0 => l
  | d + 1 => part (B - 1 - d) (lev B l d)
/-- a level's vector of bits -/
def bitf (l : List Nat) (b i : Nat) : Bool := (l.getD i 0).testBit b
/-- where the next level has what is at the place i -/
def down (f : Nat → Bool) (n : Nat) (one : Bool) (i : Nat) : Nat := if one then n - cnt f n + cnt f i else i - cnt f i
/-- where the list has the number c -/
def eqf (l : List Nat) (c i : Nat) : Bool := l[i]? == some c
/-- the numbers from a up to b are s -/
def Seg (L : List Nat) (a b : Nat) (s : List Nat) : Prop := ∃ l1 l3, L = l1 ++ s ++ l3 ∧ a = l1.length ∧ b = l1.length + s.length

theorem filter_split (b : Nat) (l : List Nat) : (l.filter (fun x => x.testBit b == false)).length + (l.filter (fun x => x.testBit b == true)).length = l.length := by
  induction l with
  | nil => rfl
  | cons x r ih =>
    rw [List.filter_cons, List.filter_cons]
    cases x.testBit b <;> simp at ih ⊢ <;> omega
theorem part_length (b : Nat) (l : List Nat) : (part b l).length = l.length := by
  unfold part; rw [List.length_append]; exact filter_split b l
theorem lev_length (B : Nat) (l : List Nat) (d : Nat) : (lev B l d).length = l.length := by
  induction d with
  | zero => rfl
  | succ d ih => unfold lev; rw [part_length, ih]
theorem part_mem {b : Nat} {l : List Nat} {x : Nat} (h : x ∈ part b l) : x ∈ l := by
  unfold part at h
  rw [List.mem_append, List.mem_filter, List.mem_filter] at h
  rcases h with h | h <;> exact h.1
theorem lev_mem {B : Nat} {l : List Nat} {d x : Nat} (h : x ∈ lev B l d) : x ∈ l := by
  induction d with
  | zero => exact h
  | succ d ih => exact ih (part_mem h)
theorem bitf_out (l : List Nat) (b i : Nat) (h : l.length ≤ i) : bitf l b i = false := by
  unfold bitf; rw [List.getD_eq_getElem?_getD, List.getElem?_eq_none h]; simp

/-- counting by places, and counting in a list -/
theorem cnt_list (g : Nat → Bool) (p : Nat → Bool) (l : List Nat) (h : ∀ i (hi : i < l.length), g i = p l[i]) : ∀ i, i ≤ l.length → cnt g i = ((l.take i).filter p).length := by
  intro i
  induction i with
  | zero => intro _; rfl
  | succ i ih =>
    intro hi
    rw [cnt_succ, ih (by omega), h i (by omega), List.take_add_one, List.getElem?_eq_getElem (by omega)]
    rw [List.filter_append, List.length_append]
    congr 1
    simp only [Option.toList_some, List.filter_cons, List.filter_nil]
    cases p l[i] <;> simp
theorem cnt_bitf (l : List Nat) (b i : Nat) (h : i ≤ l.length) : cnt (bitf l b) i = ((l.take i).filter (fun x => x.testBit b == true)).length :=
  cnt_list _ (fun x => x.testBit b == true) l (fun i hi => by unfold bitf; rw [List.getD_eq_getElem?_getD, List.getElem?_eq_getElem hi]; simp) i h
theorem cnt_eqf (l : List Nat) (c i : Nat) (h : i ≤ l.length) : cnt (eqf l c) i = ((l.take i).filter (fun x => x == c)).length :=
  cnt_list _ (fun x => x == c) l (fun i hi => by unfold eqf; rw [List.getElem?_eq_getElem hi]; simp) i h

/-- THE NEXT LEVEL: a span's zeros (its ones) lie there side by side, in their order. -/
theorem seg_down {L : List Nat} {a b : Nat} {s : List Nat} (bt : Nat) (h : Seg L a b s) (one : Bool) :
    Seg (part bt L) (down (bitf L bt) L.length one a) (down (bitf L bt) L.length one b) (s.filter (fun x => x.testBit bt == one)) := by
  obtain ⟨l1, l3, rfl, rfl, rfl⟩ := h
  have c1 : cnt (bitf (l1 ++ s ++ l3) bt) l1.length = (l1.filter (fun x => x.testBit bt == true)).length := by
    rw [cnt_bitf _ _ _ (by simp only [List.length_append]; omega), List.append_assoc, List.take_left]
  have c2 : cnt (bitf (l1 ++ s ++ l3) bt) (l1.length + s.length) = (l1.filter (fun x => x.testBit bt == true)).length + (s.filter (fun x => x.testBit bt == true)).length := by
    rw [cnt_bitf _ _ _ (by simp only [List.length_append]; omega), ← List.length_append, List.take_left, List.filter_append, List.length_append]
  have c3 : cnt (bitf (l1 ++ s ++ l3) bt) (l1 ++ s ++ l3).length = (l1.filter (fun x => x.testBit bt == true)).length + (s.filter (fun x => x.testBit bt == true)).length + (l3.filter (fun x => x.testBit bt == true)).length := by
    rw [cnt_bitf _ _ _ (Nat.le_refl _), List.take_length, List.filter_append, List.filter_append, List.length_append, List.length_append]
  have c4 : (l1 ++ s ++ l3).length = l1.length + s.length + l3.length := by simp only [List.length_append]
  have e1 := filter_split bt l1
  have e2 := filter_split bt s
  have e3 := filter_split bt l3
  cases one
  · refine ⟨l1.filter (fun x => x.testBit bt == false), l3.filter (fun x => x.testBit bt == false) ++ (l1 ++ s ++ l3).filter (fun x => x.testBit bt == true), ?_, ?_, ?_⟩
    · unfold part; simp only [List.filter_append, List.append_assoc]
    · unfold down; rw [if_neg (by simp), c1]; omega
    · unfold down; rw [if_neg (by simp), c2]; omega
  · refine ⟨(l1 ++ s ++ l3).filter (fun x => x.testBit bt == false) ++ l1.filter (fun x => x.testBit bt == true), l3.filter (fun x => x.testBit bt == true), ?_, ?_, ?_⟩
    · unfold part; simp only [List.filter_append, List.append_assoc]
    · unfold down; rw [if_pos rfl, c3, c1]; simp only [List.filter_append, List.length_append]; omega
    · unfold down; rw [if_pos rfl, c3, c2]; simp only [List.filter_append, List.length_append]; omega

/-- a place, led down d levels by the bits of c -/
def led (B : Nat) (l : List Nat) (c : Nat) : Nat → Nat → Nat
  | 0, t => t
  | d + 1, t => down (bitf (lev B l d) (B - 1 - d)) l.length (c.testBit (B - 1 - d)) (led B l c d t)

theorem pre_step (x h : Nat) : x / 2 ^ h = 2 * (x / 2 ^ (h + 1)) + (x.testBit h).toNat := by
  have e : x / 2 ^ (h + 1) = x / 2 ^ h / 2 := by rw [Nat.pow_succ, Nat.div_div_eq_div_mul]
  rw [e, Nat.testBit_eq_decide_div_mod_eq]
  have := Nat.div_add_mod (x / 2 ^ h) 2
  have h2 : x / 2 ^ h % 2 < 2 := Nat.mod_lt _ (by decide)
  rcases (show x / 2 ^ h % 2 = 0 ∨ x / 2 ^ h % 2 = 1 by omega) with h3 | h3
  · rw [h3] at this ⊢; simp; omega
  · rw [h3] at this ⊢; simp; omega
theorem like_step (x P h : Nat) (o : Bool) : ((x / 2 ^ (h + 1) == P) && (x.testBit h == o)) = (x / 2 ^ h == 2 * P + o.toNat) := by
  rw [pre_step x h]
  generalize x / 2 ^ (h + 1) = y
  rw [Bool.eq_iff_iff, Bool.and_eq_true, beq_iff_eq, beq_iff_eq, beq_iff_eq]
  cases x.testBit h <;> cases o <;> simp only [Bool.toNat_false, Bool.toNat_true, reduceCtorEq, and_true, and_false, false_iff] <;> omega
theorem filter_step (s : List Nat) (P h : Nat) (o : Bool) : (s.filter (fun x => x / 2 ^ (h + 1) == P)).filter (fun x => x.testBit h == o) = s.filter (fun x => x / 2 ^ h == 2 * P + o.toNat) := by
  rw [List.filter_filter]
  congr 1
  funext x
  rw [← like_step, Bool.and_comm]
theorem less_step (x P h : Nat) (o : Bool) : (decide (x / 2 ^ h < 2 * P + o.toNat)).toNat = (decide (x / 2 ^ (h + 1) < P)).toNat + (o && ((x / 2 ^ (h + 1) == P) && (x.testBit h == false))).toNat := by
  rw [pre_step x h]
  generalize x / 2 ^ (h + 1) = y
  rcases Nat.lt_trichotomy y P with e | e | e
  · have h1 : 2 * y + (x.testBit h).toNat < 2 * P + o.toNat := by have := Bool.toNat_le (x.testBit h); omega
    have h2 : (y == P) = false := by simp; omega
    simp [h1, h2, e]
  · subst e
    cases x.testBit h <;> cases o <;> simp
  · have h1 : ¬ 2 * y + (x.testBit h).toNat < 2 * P + o.toNat := by have := Bool.toNat_le o; omega
    have h2 : (y == P) = false := by simp; omega
    have h3 : ¬ y < P := by omega
    simp [h1, h2, h3]
theorem below_step (s : List Nat) (P h : Nat) (o : Bool) : (s.filter (fun x => decide (x / 2 ^ h < 2 * P + o.toNat))).length = (s.filter (fun x => decide (x / 2 ^ (h + 1) < P))).length + (if o then ((s.filter (fun x => x / 2 ^ (h + 1) == P)).filter (fun x => x.testBit h == false)).length else 0) := by
  induction s with
  | nil => cases o <;> rfl
  | cons x r ih =>
    have e := less_step x P h o
    rw [List.filter_filter] at ih ⊢
    simp only [List.filter_cons]
    cases o
    · simp only [Bool.false_eq_true, if_false, Nat.add_zero, Bool.false_and, Bool.toNat_false] at ih e ⊢
      generalize decide (x / 2 ^ h < 2 * P) = u at e ⊢
      generalize decide (x / 2 ^ (h + 1) < P) = v at e ⊢
      cases u <;> cases v <;> simp only [Bool.toNat_false, Bool.toNat_true, Bool.false_eq_true, if_true, if_false, List.length_cons] at e ⊢ <;> omega
    · simp only [if_true, Bool.true_and, Bool.toNat_true] at ih e ⊢
      rw [Bool.and_comm] at e
      generalize decide (x / 2 ^ h < 2 * P + 1) = u at e ⊢
      generalize decide (x / 2 ^ (h + 1) < P) = v at e ⊢
      generalize ((x.testBit h == false) && (x / 2 ^ (h + 1) == P)) = z at e ⊢
      cases u <;> cases v <;> cases z <;> simp only [Bool.toNat_false, Bool.toNat_true, Bool.false_eq_true, if_true, if_false, List.length_cons] at e ⊢ <;> omega

/-- A SPAN LED DOWN: what is left of it has the highest bits of c. -/
theorem seg_led {B : Nat} {l : List Nat} {a b : Nat} {s : List Nat} (c : Nat) (h : Seg l a b s) (hc : c < 2 ^ B) (hl : ∀ x ∈ l, x < 2 ^ B) : ∀ d, d ≤ B → Seg (lev B l d) (led B l c d a) (led B l c d b) (s.filter (fun x => x / 2 ^ (B - d) == c / 2 ^ (B - d))) := by
  intro d
  induction d with
  | zero =>
    intro _
    have e : s.filter (fun x => x / 2 ^ (B - 0) == c / 2 ^ (B - 0)) = s := by
      rw [List.filter_eq_self]
      intro x hx
      obtain ⟨l1, l3, rfl, _, _⟩ := h
      have := hl x (by simp [hx])
      rw [Nat.sub_zero, Nat.div_eq_of_lt this, Nat.div_eq_of_lt hc]; rfl
    rw [e]; exact h
  | succ d ih =>
    intro hd
    have h1 := seg_down (B - 1 - d) (ih (by omega)) (c.testBit (B - 1 - d))
    rw [show B - d = (B - 1 - d) + 1 by omega, filter_step, lev_length] at h1
    rw [show B - (d + 1) = B - 1 - d by omega, pre_step c (B - 1 - d)]
    exact h1
theorem filter_last (s : List Nat) (c : Nat) : s.filter (fun x => x / 2 ^ 0 == c / 2 ^ 0) = s.filter (fun x => x == c) := by simp
theorem seg_len {L : List Nat} {a b : Nat} {s : List Nat} (h : Seg L a b s) : b = a + s.length ∧ b ≤ L.length := by
  obtain ⟨l1, l3, rfl, rfl, rfl⟩ := h
  simp
theorem seg_of (l : List Nat) (a b : Nat) (h1 : a ≤ b) (h2 : b ≤ l.length) : Seg l a b ((l.take b).drop a) := by
  refine ⟨l.take a, l.drop b, ?_, ?_, ?_⟩
  · have e : l.take a ++ (l.take b).drop a = l.take b := by
      have := List.take_append_drop a (l.take b)
      rwa [List.take_take, Nat.min_eq_left h1] at this
    rw [e, List.take_append_drop]
  · simp; omega
  · simp; omega
/-- how often the number c is from a up to b -/
theorem led_len {B : Nat} {l : List Nat} {a b : Nat} (c : Nat) (hc : c < 2 ^ B) (hl : ∀ x ∈ l, x < 2 ^ B) (h1 : a ≤ b) (h2 : b ≤ l.length) :
    led B l c B b = led B l c B a + (((l.take b).drop a).filter (fun x => x == c)).length ∧ led B l c B b ≤ l.length := by
  have h := seg_led c (seg_of l a b h1 h2) hc hl B (Nat.le_refl _)
  rw [Nat.sub_self, filter_last] at h
  have := seg_len h
  rw [lev_length] at this
  exact this
theorem led_le {B : Nat} {l : List Nat} {a b : Nat} (c : Nat) (hc : c < 2 ^ B) (hl : ∀ x ∈ l, x < 2 ^ B) (h1 : a ≤ b) (h2 : b ≤ l.length) (d : Nat) (hd : d ≤ B) :
    led B l c d a ≤ led B l c d b ∧ led B l c d b ≤ l.length := by
  have := seg_len (seg_led c (seg_of l a b h1 h2) hc hl d hd)
  rw [lev_length] at this
  omega
theorem led_rank {B : Nat} {l : List Nat} (c : Nat) (hc : c < 2 ^ B) (hl : ∀ x ∈ l, x < 2 ^ B) (i : Nat) (h2 : i ≤ l.length) :
    led B l c B i = led B l c B 0 + cnt (eqf l c) i := by
  rw [(led_len c hc hl (Nat.zero_le i) h2).1, List.drop_zero, cnt_eqf l c i h2]

/-- a number's own place, led down by its own bits -/
theorem led_at {B : Nat} {l : List Nat} {t c : Nat} (ht : l[t]? = some c) (hl : ∀ x ∈ l, x < 2 ^ B) (d : Nat) (hd : d ≤ B) : (lev B l d)[led B l c d t]? = some c ∧ led B l c d t < l.length := by
  have hlt : t < l.length := by
    rcases Nat.lt_or_ge t l.length with h | h
    · exact h
    · rw [List.getElem?_eq_none h] at ht; cases ht
  have hm : c ∈ l := List.mem_of_getElem? ht
  have e : (l.take (t + 1)).drop t = [c] := by
    rw [List.take_add_one, ht]
    simp [Nat.min_eq_left (Nat.le_of_lt hlt)]
  have h := seg_led c (seg_of l t (t + 1) (by omega) (by omega)) (hl c hm) hl d hd
  rw [e] at h
  have e2 : [c].filter (fun x => x / 2 ^ (B - d) == c / 2 ^ (B - d)) = [c] := by simp
  rw [e2] at h
  obtain ⟨l1, l3, h1, h3, h4⟩ := h
  have h5 := congrArg List.length h1
  rw [lev_length] at h5
  rw [h1, h3]
  refine ⟨by simp, ?_⟩
  simp at h5; omega
theorem bitf_at {l : List Nat} {b t c : Nat} (h : l[t]? = some c) : bitf l b t = c.testBit b := by
  unfold bitf; rw [List.getD_eq_getElem?_getD, h]; rfl

/-- THE WAY BACK UP: the one place of a level that is led to where one came from. -/
theorem up_uniq {f : Nat → Bool} {one : Bool} {s t : Nat} (hs : f s = one) (ht : f t = one) (h : cnt (side f one) s = cnt (side f one) t) : s = t :=
  cnt_uniq (side f one) (by simp [side, hs]) (by simp [side, ht]) h
theorem down_side {f : Nat → Bool} {n : Nat} (one : Bool) (i : Nat) : down f n one i = (if one then n - cnt f n else 0) + cnt (side f one) i := by
  unfold down
  cases one
  · have := cnt_side f i
    simp; omega
  · simp [side_true]
end Go.Proofs.YtphjbbbnbmafnabGreatDoor

namespace Go.Proofs.YtphjbbbnbmafnabGreatDoor
open Go.RowKit

theorem one_bit (x i : Nat) (hx : x < 18446744073709551616) : (bits .and .u64 ((x : Int) / 2 ^ i) 1 == 1) = x.testBit i := by
  have e : ((x : Int) / 2 ^ i) = ((x / 2 ^ i : Nat) : Int) := by rw [Int.natCast_ediv]; simp
  have hl : x / 2 ^ i < 18446744073709551616 := Nat.lt_of_le_of_lt (Nat.div_le_self _ _) hx
  have q : bits .and .u64 ((x / 2 ^ i : Nat) : Int) 1 = ((x / 2 ^ i &&& 1 : Nat) : Int) := u64_and_nat _ 1 hl (by decide)
  rw [e, q, Nat.testBit_eq_decide_div_mod_eq, Nat.and_one_is_mod]
  generalize x / 2 ^ i % 2 = m
  by_cases h : m = 1
  · subst h; rfl
  · have : ¬ ((m : Int) = 1) := by omega
    simp [h, this]
theorem ret_bool {a b : Bool} (h : a = b) : Ending.returned (.bool a) = .returned (.bool b) := by rw [h]
set_option maxHeartbeats 400000 in
theorem isOne_any {w : World} {b bw ba n : Nat} {f : Nat → Bool} {W : Nat → Nat} (hb : BitsAt w b bw ba f n W) (i : Nat) (h : i ≤ n) :
    Calls Tryz.prog 132 #[.pointer (some ⟨b, 0, none⟩), .int .i64 (i : Int)] w fun e w' => e = .returned (.bool (f i)) ∧ w' = w := by
  have h2 := hb.words
  have hn := hb.hn
  have hw := hb.word (i / 64) (by omega)
  have hl := hb.wlt (i / 64)
  have hi1 : (i : Int) / 64 < ((n / 64 + 1 : Nat) : Int) := by omega
  have e := hb.wbit (i / 64) (i % 64) (by omega)
  rw [show 64 * (i / 64) + i % 64 = i by omega] at e
  have HE : Hid _ := e
  clear e
  go_enter Tryz.func132, Tryz.ntmps132
  go_wp2
  go_ret
  exact ⟨ret_bool (by rw [← HE.out]; exact one_bit _ _ hl), rfl⟩
set_option maxHeartbeats 400000 in
theorem zeros_any {w : World} {b bw ba n : Nat} {f : Nat → Bool} {W : Nat → Nat} (hb : BitsAt w b bw ba f n W) :
    Calls Tryz.prog 148 #[.pointer (some ⟨b, 0, none⟩)] w fun e w' => e = .returned (.int .i64 ((n : Int) - (cnt f n : Int))) ∧ ∃ q, w' = w.drewN q := by
  have h0 := hb.len
  have h1 := hb.ones
  have hn := hb.hn
  have hc := cnt_le f n
  go_enter Tryz.func148, Tryz.ntmps148
  go_wp2
  go_quiet (fail)
  go_wp2
  go_ret
  exact ⟨rfl, _, rfl⟩
set_option maxHeartbeats 400000 in
theorem down_any {w : World} {b bw ba n : Nat} {f : Nat → Bool} {W : Nat → Nat} (hb : BitsAt w b bw ba f n W) (one : Bool) (i : Nat) (h : i ≤ n) (I : Int) (hI : I = (i : Int)) :
    Calls Tryz.prog 133 #[.pointer (some ⟨b, 0, none⟩), .int .i64 I, .bool one] w fun e w' => e = .returned (.int .i64 (down f n one i : Int)) ∧ ∃ q, w' = w.drewN q := by
  subst hI
  have hn := hb.hn
  have hc := cnt_le f n
  have hci := cnt_le f i
  cases one
  · have HD : Hid (((i : Int) - (cnt f i : Int)) = (down f n false i : Int)) := (by unfold down; simp; omega : _ = _)
    go_enter Tryz.func133, Tryz.ntmps133
    go_wp2_with fail
    refine (oa_any hb i h _ rfl).mono ?_
    rintro e w' ⟨rfl, q, rfl⟩
    go_wp2
    go_ret
    exact ⟨ret1_int HD.out, _, rfl⟩
  · have HD : Hid (((n : Int) - (cnt f n : Int) + (cnt f i : Int)) = (down f n true i : Int)) := (by unfold down; simp; omega : _ = _)
    go_enter Tryz.func133, Tryz.ntmps133
    go_wp2_with fail
    refine (zeros_any hb).mono ?_
    rintro e w' ⟨rfl, q, rfl⟩
    go_wp2_with fail
    refine (oa_any (hb.drewN _) i h _ rfl).mono ?_
    rintro e w' ⟨rfl, q, rfl⟩
    go_wp2
    go_ret
    exact ⟨ret1_int HD.out, _, rfl⟩
set_option maxHeartbeats 400000 in
theorem long_any (x y : Int) (hx : 0 ≤ x ∧ x ≤ 1000000) (hy : 0 ≤ y ∧ y ≤ 1000000) (w : World) :
    Calls Tryz.prog 117 #[.agg #[.int .i64 x, .int .i64 y]] w fun e w' => e = .returned (.int .i64 (y - x)) ∧ Below w.heap.size w w' := by
  go_enter Tryz.func117, Tryz.ntmps117
  go_wp2
  go_ret
  exact ⟨rfl, (Below.refl _ _).alloc (Nat.le_refl _) _⟩
set_option maxHeartbeats 400000 in
theorem isSpan_any (x y n : Int) (w : World) :
    Calls Tryz.prog 93 #[.agg #[.int .i64 x, .int .i64 y], .int .i64 n] w fun e w' => e = .returned (.bool (decide (0 ≤ x ∧ x ≤ y ∧ y ≤ n))) ∧ Below w.heap.size w w' := by
  by_cases h1 : 0 ≤ x
  · by_cases h2 : x ≤ y
    · by_cases h3 : y ≤ n
      · have HD : Hid _ := decide_eq_true (show 0 ≤ x ∧ x ≤ y ∧ y ≤ n from ⟨h1, h2, h3⟩)
        rw [HD.out]
        go_enter Tryz.func93, Tryz.ntmps93
        go_wp2
        go_ret
        exact ⟨rfl, (Below.refl _ _).alloc (Nat.le_refl _) _⟩
      · have HD : Hid _ := decide_eq_false (show ¬ (0 ≤ x ∧ x ≤ y ∧ y ≤ n) from fun h => h3 h.2.2)
        rw [HD.out]
        go_enter Tryz.func93, Tryz.ntmps93
        go_wp2
        go_ret
        exact ⟨rfl, (Below.refl _ _).alloc (Nat.le_refl _) _⟩
    · have HD : Hid _ := decide_eq_false (show ¬ (0 ≤ x ∧ x ≤ y ∧ y ≤ n) from fun h => h2 h.2.1)
      rw [HD.out]
      go_enter Tryz.func93, Tryz.ntmps93
      go_wp2
      go_ret
      exact ⟨rfl, (Below.refl _ _).alloc (Nat.le_refl _) _⟩
  · have HD : Hid _ := decide_eq_false (show ¬ (0 ≤ x ∧ x ≤ y ∧ y ≤ n) from fun h => h1 h.1)
    rw [HD.out]
    go_enter Tryz.func93, Tryz.ntmps93
    go_wp2
    go_ret
    exact ⟨rfl, (Below.refl _ _).alloc (Nat.le_refl _) _⟩
theorem two_below (w : World) (x y : Obj) : Below w.heap.size w ((w.alloc x).alloc y) := ((Below.refl _ _).alloc (Nat.le_refl _) _).alloc (by simp) _
set_option maxHeartbeats 1000000 in
/-- narrow: where a span's ones (zeros) lie in the next level -/
theorem narrow_any {w : World} {b bw ba n : Nat} {f : Nat → Bool} {W : Nat → Nat} (hb : BitsAt w b bw ba f n W) (one : Bool) (i j : Nat) (hi : i ≤ n) (hj : j ≤ n) (I J : Int) (hI : I = (i : Int)) (hJ : J = (j : Int)) :
    Calls Tryz.prog 141 #[.pointer (some ⟨b, 0, none⟩), .agg #[.int .i64 I, .int .i64 J], .bool one] w fun e w' => e = .returned (.agg #[.int .i64 (down f n one i : Int), .int .i64 (down f n one j : Int)]) ∧ Below w.heap.size w w' := by
  subst hI hJ
  have hB := two_below w (.cells #[.int .i64 (i : Int), .int .i64 (j : Int)] 133) (.cells #[.int .i64 0, .int .i64 0] 133)
  have hb1 := hb.below hB
  have HD : Hid (∀ w2, BitsAt w2 b bw ba f n W → ∀ t, t ≤ n → ∀ T : Int, T = (t : Int) → Calls Tryz.prog 133 _ w2 _) := fun w2 h2 t ht T hT => down_any h2 one t ht T hT
  have HB : Hid _ := hb1
  have HL : Hid _ := hB
  clear hb1 hB hb
  go_enter Tryz.func141, Tryz.ntmps141
  go_wp2
  go_region_held (fun w' => w'.cell? ⟨w.heap.size, 0, none⟩ = some (.int .i64 (i : Int)) ∧ w'.cell? ⟨w.heap.size, 1, none⟩ = some (.int .i64 (j : Int))) (go_keep)
    (first
      | (go_at_call_of 133 (Value.int IntKind.i64 (i : Int)); refine (HD.out _ ?_ i hi _ rfl).mono ?_; exact (HB.out.kept (fun _ _ h => h)); rintro e w' ⟨rfl, q1, rfl⟩)
      | (go_at_call_of 133 (Value.int IntKind.i64 (j : Int)); refine (HD.out _ ?_ j hj _ rfl).mono ?_; exact (HB.out.kept (fun _ _ h => h)); rintro e w' ⟨rfl, q2, rfl⟩))
  go_wp2
  refine bodyPost_ret (v := .agg #[.int .i64 (down f n one i : Int), .int .i64 (down f n one j : Int)]) (by simp [results, Tryz.results141, go_sem]) rfl ?_
  exact ⟨rfl, ((below_drewN HL.out _).setCell (p := ⟨w.heap.size + 1, 0, none⟩) (by simp) _).setCell (p := ⟨w.heap.size + 1, 1, none⟩) (by simp) _⟩
/-! ### A sequence in memory -/
/-- A sequence of numbers of B bits as NewSeq lays it: its struct in block b, its levels' pointers in block g. -/
structure SeqAt (B : Nat) (w : World) (b g : Nat) (l : List Nat) : Prop where
  hn : l.length ≤ 100000
  lt : ∀ x ∈ l, x < 2 ^ B
  len : w.cell? ⟨b, 0, none⟩ = some (.int .i64 (l.length : Int))
  levels : w.cell? ⟨b, 1, none⟩ = some (.slice (some ⟨g, 0, none⟩) B B)
  level : ∀ d, d < B → ∃ bb bw ba W, w.cell? ⟨g, d, none⟩ = some (.pointer (some ⟨bb, 0, none⟩)) ∧ BitsAt w bb bw ba (bitf (lev B l d) (B - 1 - d)) l.length W
theorem SeqAt.kept {B : Nat} {w w' : World} {b g : Nat} {l : List Nat} (hs : SeqAt B w b g l) (h : ∀ p v, w.cell? p = some v → w'.cell? p = some v) : SeqAt B w' b g l :=
  ⟨hs.hn, hs.lt, h _ _ hs.len, h _ _ hs.levels, fun d hd => by
    obtain ⟨bb, bw, ba, W, h1, h2⟩ := hs.level d hd
    exact ⟨bb, bw, ba, W, h _ _ h1, h2.kept h⟩⟩
theorem SeqAt.below {B : Nat} {w w' : World} {b g : Nat} {l : List Nat} (hs : SeqAt B w b g l) (hB : Below w.heap.size w w') : SeqAt B w' b g l := hs.kept (cell_kept hB)
theorem SeqAt.drewN {B : Nat} {w : World} {b g : Nat} {l : List Nat} (hs : SeqAt B w b g l) (q : Nat) : SeqAt B (w.drewN q) b g l := hs.kept (fun _ _ h => h)
/-- the number that has but the bit of level d -/
def bitv (B d : Nat) : Int := ((2 ^ (B - 1 - d) : Nat) : Int)
theorem bit_ne (x h : Nat) : (((x &&& 2 ^ h : Nat) : Int) != 0) = x.testBit h := by
  have e : x &&& 2 ^ h = (x.testBit h).toNat * 2 ^ h := by
    rw [nat_bit, Nat.testBit_eq_decide_div_mod_eq]
    have : x / 2 ^ h % 2 < 2 := Nat.mod_lt _ (by decide)
    rcases (show x / 2 ^ h % 2 = 0 ∨ x / 2 ^ h % 2 = 1 by omega) with e | e <;> rw [e] <;> simp
  rw [e]
  have hp : 0 < 2 ^ h := Nat.two_pow_pos h
  cases x.testBit h
  · simp
  · simp only [Bool.toNat_true, Nat.one_mul, bne_iff_ne, ne_eq]; omega
/-- the highest d bits P, and zeros behind them -/
def acc (B d P : Nat) : Int := ((P * 2 ^ (B - d) : Nat) : Int)
theorem acc_zero {B d P : Nat} (hd : d < B) : acc B d P = acc B (d + 1) (2 * P) := by
  unfold acc
  rw [show B - d = (B - (d + 1)) + 1 by omega, Nat.pow_succ]
  congr 1
  rw [Nat.mul_comm (2 ^ _) 2, ← Nat.mul_assoc, Nat.mul_comm P 2]
theorem acc_one {B d P : Nat} (hd : d < B) : (P * 2 ^ (B - d)) ||| 2 ^ (B - 1 - d) = (2 * P + 1) * 2 ^ (B - (d + 1)) := by
  rw [nat_join (B - d) _ _ (Nat.mul_mod_left _ _) (Nat.pow_lt_pow_right (by decide) (by omega))]
  rw [show B - d = (B - (d + 1)) + 1 by omega, Nat.pow_succ, show B - 1 - d = B - (d + 1) by omega, Nat.add_mul, Nat.one_mul]
  congr 1
  rw [Nat.mul_comm (2 ^ _) 2, ← Nat.mul_assoc, Nat.mul_comm P 2]
theorem acc_lt {B d P : Nat} (hd : d ≤ B) (hP : P < 2 ^ d) : P * 2 ^ (B - d) < 2 ^ B := by
  have e : 2 ^ B = 2 ^ d * 2 ^ (B - d) := by rw [← Nat.pow_add]; congr 1; omega
  rw [e]
  exact Nat.mul_lt_mul_of_pos_right hP (Nat.two_pow_pos _)
theorem pre_lt {B d x : Nat} (hd : d ≤ B) (hx : x < 2 ^ B) : x / 2 ^ (B - d) < 2 ^ d := by
  rw [Nat.div_lt_iff_lt_mul (Nat.two_pow_pos _), ← Nat.pow_add]
  rwa [show d + (B - d) = B by omega]
/-- two cells of a block of one's own -/
structure Box2 (w : World) (X : Nat) (u v : Value) : Prop where
  c0 : w.cell? ⟨X, 0, none⟩ = some u
  c1 : w.cell? ⟨X, 1, none⟩ = some v
  f0 : w.frozen? ⟨X, 0, none⟩ = false
  f1 : w.frozen? ⟨X, 1, none⟩ = false
theorem Box2.below {w w' : World} {X : Nat} {u v : Value} (h : Box2 w X u v) (hB : Below w.heap.size w w') : Box2 w' X u v := by
  have hl := World.block_lt_of_cell? _ _ h.c0
  exact ⟨cell_kept hB _ _ h.c0, cell_kept hB _ _ h.c1, (hB.frozen (p := ⟨X, 0, none⟩) hl).trans h.f0, (hB.frozen (p := ⟨X, 1, none⟩) hl).trans h.f1⟩
theorem Box2.drewN {w : World} {X : Nat} {u v : Value} (h : Box2 w X u v) (q : Nat) : Box2 (w.drewN q) X u v := ⟨h.c0, h.c1, h.f0, h.f1⟩
theorem Box2.drew {w : World} {X : Nat} {u v : Value} (h : Box2 w X u v) : Box2 w.drew X u v := ⟨h.c0, h.c1, h.f0, h.f1⟩
theorem Box2.set {w : World} {X : Nat} {u v : Value} (h : Box2 w X u v) (u' v' : Value) : Box2 ((w.setCell ⟨X, 0, none⟩ u').setCell ⟨X, 1, none⟩ v') X u' v' := by
  have h0 := h.c0
  have h1 := h.c1
  have h2 := h.f0
  have h3 := h.f1
  refine ⟨?_, ?_, ?_, ?_⟩ <;> simp [*, go_sem]
theorem Box2.far {w : World} {X Y : Nat} {u v : Value} (h : Box2 w X u v) (hY : X ≠ Y) (a b : Value) : Box2 ((w.setCell ⟨Y, 0, none⟩ a).setCell ⟨Y, 1, none⟩ b) X u v := by
  have hb (w : World) (o : Nat) (x : Value) : (w.setCell ⟨Y, o, none⟩ x).heap[X]? = w.heap[X]? := Below.heap_setCell _ _ _ _ hY
  have e : ((w.setCell ⟨Y, 0, none⟩ a).setCell ⟨Y, 1, none⟩ b).heap[X]? = w.heap[X]? := (hb _ _ _).trans (hb _ _ _)
  exact ⟨(World.cell?_of_block (w := w) e).trans h.c0, (World.cell?_of_block (w := w) e).trans h.c1, (World.frozen?_of_block (w := w) e).trans h.f0, (World.frozen?_of_block (w := w) e).trans h.f1⟩
theorem box2_new (w : World) (u v : Value) (t : TypeId) : Box2 (w.alloc (.cells #[u, v] t)) w.heap.size u v := by
  refine ⟨?_, ?_, ?_, ?_⟩ <;> simp
theorem own2 {w wr : World} (h : Below w.heap.size w wr) {X : Nat} (hX : w.heap.size ≤ X) (a b : Value) : Below w.heap.size w ((wr.setCell ⟨X, 0, none⟩ a).setCell ⟨X, 1, none⟩ b) :=
  (h.setCell (p := ⟨X, 0, none⟩) hX _).setCell (p := ⟨X, 1, none⟩) hX _
theorem chain {w a b : World} (h1 : Below w.heap.size w a) (h2 : Below a.heap.size a b) : Below w.heap.size w b := h1.trans (h2.mono h1.size)
end Go.Proofs.YtphjbbbnbmafnabGreatDoor

namespace Go.Proofs.YtphjbbbnbmafnabGreatDoor

/-- how many numbers from x up to y are below c -/
def bel (l : List Nat) (x y c : Nat) : Nat := (((l.take y).drop x).filter (fun z => decide (z < c))).length
/-- how many of them are c -/
def eqn (l : List Nat) (x y c : Nat) : Nat := (((l.take y).drop x).filter (fun z => z == c)).length
theorem eqn_cnt {l : List Nat} {x y : Nat} (c : Nat) (h1 : x ≤ y) (h2 : y ≤ l.length) : eqn l x y c + cnt (eqf l c) x = cnt (eqf l c) y := by
  unfold eqn
  rw [cnt_eqf l c y h2, cnt_eqf l c x (by omega)]
  have e : l.take y = l.take x ++ (l.take y).drop x := by
    have := List.take_append_drop x (l.take y)
    rw [List.take_take, Nat.min_eq_left h1] at this
    exact this.symm
  conv => rhs; rw [e, List.filter_append, List.length_append]
  omega
theorem bel_le (l : List Nat) (x y c : Nat) : bel l x y c ≤ l.length := by
  unfold bel
  refine Nat.le_trans (List.length_filter_le _ _) ?_
  simp; omega
/-- the k-th least number is one alone -/
theorem least_uniq {s : List Nat} {k c e : Nat} (h1 : (s.filter (fun z => decide (z < c))).length ≤ k) (h2 : k < (s.filter (fun z => decide (z < c))).length + (s.filter (fun z => z == c)).length)
    (h3 : (s.filter (fun z => decide (z < e))).length ≤ k) (h4 : k < (s.filter (fun z => decide (z < e))).length + (s.filter (fun z => z == e)).length) : c = e := by
  have key : ∀ a b, a < b → (s.filter (fun z => decide (z < a))).length + (s.filter (fun z => z == a)).length ≤ (s.filter (fun z => decide (z < b))).length := by
    intro a b hab
    clear h1 h2 h3 h4
    induction s with
    | nil => simp
    | cons z r ih =>
      simp only [List.filter_cons]
      rcases Nat.lt_trichotomy z a with h | h | h
      · have e1 : decide (z < a) = true := by simpa using h
        have e2 : (z == a) = false := by simp; omega
        have e3 : decide (z < b) = true := by simp; omega
        rw [e1, e2, e3]; simp only [if_true, Bool.false_eq_true, if_false, List.length_cons]; omega
      · have e1 : decide (z < a) = false := by simp; omega
        have e2 : (z == a) = true := by simpa using h
        have e3 : decide (z < b) = true := by simp; omega
        rw [e1, e2, e3]; simp only [if_true, Bool.false_eq_true, if_false, List.length_cons]; omega
      · have e1 : decide (z < a) = false := by simp; omega
        have e2 : (z == a) = false := by simp; omega
        rw [e1, e2]
        simp only [Bool.false_eq_true, if_false]
        cases decide (z < b) <;> simp only [if_true, Bool.false_eq_true, if_false, List.length_cons] <;> omega
  rcases Nat.lt_trichotomy c e with h | h | h
  · have := key c e h; omega
  · exact h
  · have := key e c h; omega
end Go.Proofs.YtphjbbbnbmafnabGreatDoor
