/-
  Where the edges of a graph lie, without the program: the ones of the sources, the list by labels, places in it and in order, counting within spans. No condition.
-/
import Derived.Test.YtphjbbbnbmafnabGreatDoorGBits
import Derived.Test.YtphjbbbnbmafnabGreatDoorEqE
import Derived.Test.YtphjbbbnbmafnabGreatDoorGMath
import Derived.Test.YtphjbbbnbmafnabGreatDoorLeast16
namespace Go.Proofs.YtphjbbbnbmafnabGreatDoor.G
open Go.RowKit

/-! ### where the ones of the sources stand -/
theorem srcs_cnt (l : List E3) (h0 : Gm.ah l 0 = 0) (n : Nat) : ∀ u j, u < n → j ≤ Gm.ah l (u + 1) - Gm.ah l u → (∀ i < j, (srcs l n).getD (Gm.ah l u + u + i) false = true) := by
  induction n with
  | zero => intro u j hu; omega
  | succ n ih =>
    intro u j hu hj i hi
    have hsl := srcs_len l h0 n
    show (srcs l n ++ (List.replicate (Gm.ah l (n + 1) - Gm.ah l n) true ++ [false])).getD _ false = true
    rw [List.getD_eq_getElem?_getD]
    by_cases e : u = n
    · subst e
      rw [List.getElem?_append_right (by omega), List.getElem?_append_left (by simp; omega), List.getElem?_replicate, if_pos (by omega)]; rfl
    · have h1 := Gm.ah_mono l (show u + 1 ≤ n by omega)
      have h2 := Gm.ah_mono l (show u ≤ u + 1 by omega)
      rw [List.getElem?_append_left (by omega), ← List.getD_eq_getElem?_getD]
      exact ih u j (by omega) hj i hi
/-- a list's bits as a function -/
def bf (l : List Bool) (i : Nat) : Bool := l.getD i false
theorem bf_left (l m : List Bool) (i : Nat) (h : i < l.length) : bf (l ++ m) i = bf l i := by
  unfold bf; rw [List.getD_eq_getElem?_getD, List.getElem?_append_left h, ← List.getD_eq_getElem?_getD]
theorem bf_right (l m : List Bool) (i : Nat) : bf (l ++ m) (l.length + i) = bf m i := by
  unfold bf; rw [List.getD_eq_getElem?_getD, List.getElem?_append_right (by omega), Nat.add_sub_cancel_left, ← List.getD_eq_getElem?_getD]
theorem cnt_left (l m : List Bool) (i : Nat) (h : i ≤ l.length) : cnt (bf (l ++ m)) i = cnt (bf l) i := cnt_congr fun j hj => bf_left l m j (by omega)
theorem cnt_right (l m : List Bool) (i : Nat) : cnt (bf (l ++ m)) (l.length + i) = cnt (bf l) l.length + cnt (bf m) i := by
  rw [cnt_add, cnt_left l m _ (Nat.le_refl _)]
  congr 1
  exact cnt_congr fun j _ => bf_right l m j
theorem cnt_ones (j k : Nat) (m : List Bool) (h : k ≤ j) : cnt (bf (List.replicate j true ++ m)) k = k := by
  induction k with
  | zero => rfl
  | succ k ih =>
    rw [cnt_succ, ih (by omega), bf_left _ _ _ (by simp; omega)]
    unfold bf
    rw [List.getD_eq_getElem?_getD, List.getElem?_replicate, if_pos (by omega)]; rfl
/-- ahead of the ones of node u there are as many ones as edges from nodes ahead -/
theorem srcs_ahead (l : List E3) (h0 : Gm.ah l 0 = 0) (u : Nat) : cnt (bf (srcs l u)) (srcs l u).length = Gm.ah l u := by
  induction u with
  | zero => rw [h0]; rfl
  | succ u ih =>
    have hm := Gm.ah_mono l (show u ≤ u + 1 by omega)
    show cnt (bf (srcs l u ++ (List.replicate (Gm.ah l (u + 1) - Gm.ah l u) true ++ [false]))) (srcs l u ++ (List.replicate (Gm.ah l (u + 1) - Gm.ah l u) true ++ [false])).length = _
    rw [List.length_append, cnt_right, ih, List.length_append, cnt_right, List.length_replicate]
    have e := cnt_ones (Gm.ah l (u + 1) - Gm.ah l u) (Gm.ah l (u + 1) - Gm.ah l u) [] (Nat.le_refl _)
    rw [List.append_nil] at e
    rw [e]
    show _ + (_ + (cnt (bf [false]) (0 + 1))) = _
    rw [cnt_succ]
    show _ + (_ + (0 + 0)) = _
    omega
theorem srcs_pre (l : List E3) (u : Nat) : ∀ n, u ≤ n → ∃ m, srcs l n = srcs l u ++ m := by
  intro n
  induction n with
  | zero => intro h; obtain rfl : u = 0 := by omega
            exact ⟨[], by simp⟩
  | succ n ih =>
    intro h
    by_cases e : u = n + 1
    · subst e; exact ⟨[], by simp⟩
    · obtain ⟨m, hm⟩ := ih (by omega)
      exact ⟨m ++ (List.replicate (Gm.ah l (n + 1) - Gm.ah l n) true ++ [false]), by show srcs l n ++ _ = _; rw [hm, List.append_assoc]⟩
/-- the one of the edge at a place -/
theorem srcs_one (l : List E3) (n p : Nat) (e : E3) (hr : Gm.Rising l) (h0 : ∀ e ∈ l, 0 ≤ e.1 ∧ e.1 < (n : Int)) (hp : l[p]? = some e) : bf (srcs l n) (p + e.1.toNat) = true ∧ cnt (bf (srcs l n)) (p + e.1.toNat) = p := by
  have hz := Gm.ah_zero l (fun e h => (h0 e h).1)
  obtain ⟨k1, k2⟩ := h0 e (List.mem_of_getElem? hp)
  have hu : e.1.toNat < n := by omega
  generalize hu' : e.1.toNat = u at hu
  have a1 := (Gm.ah_at l (u + 1) p e hr hp).1 (by omega)
  have a2 : ¬ p < Gm.ah l u := fun h => by have := (Gm.ah_at l u p e hr hp).2 h; omega
  obtain ⟨m, hm⟩ := srcs_pre l (u + 1) n (by omega)
  have hs : srcs l n = srcs l u ++ (List.replicate (Gm.ah l (u + 1) - Gm.ah l u) true ++ ([false] ++ m)) := by
    rw [hm]
    show srcs l u ++ (List.replicate (Gm.ah l (u + 1) - Gm.ah l u) true ++ [false]) ++ m = _
    simp
  have hsl := srcs_len l hz u
  have e1 : p + u = (srcs l u).length + (p - Gm.ah l u) := by omega
  rw [hs, e1, bf_right, cnt_right, srcs_ahead l hz, cnt_ones _ _ _ (by omega)]
  refine ⟨?_, by omega⟩
  rw [bf_left _ _ _ (by simp; omega)]
  unfold bf
  rw [List.getD_eq_getElem?_getD, List.getElem?_replicate, if_pos (by omega)]; rfl
theorem srcs_all (l : List E3) (n : Nat) (h0 : ∀ e ∈ l, 0 ≤ e.1 ∧ e.1 < (n : Int)) : cnt (bf (srcs l n)) (srcs l n).length = l.length ∧ (srcs l n).length = l.length + n := by
  have hz := Gm.ah_zero l (fun e h => (h0 e h).1)
  have ha := Gm.ah_all l n (fun e h => (h0 e h).2)
  exact ⟨by rw [srcs_ahead l hz, ha], by rw [srcs_len l hz, ha]⟩

/-! ### the list by labels -/
theorem sorted_split (R : List E3) (h : Gm.S2 R) (c : Int) : R = R.filter (fun e => decide (e.2.1 < c)) ++ R.filter (fun e => decide (e.2.1 = c)) ++ R.filter (fun e => decide (c < e.2.1)) := by
  induction R with
  | nil => rfl
  | cons a R ih =>
    unfold Gm.S2 at h
    rw [List.pairwise_cons] at h
    have ih := ih h.2
    have hb : ∀ b ∈ R, a.2.1 ≤ b.2.1 := fun b hb => by have := (Gm.lt2_iff a b).1 (h.1 b hb); omega
    rcases Int.lt_trichotomy a.2.1 c with hc | hc | hc
    · rw [List.filter_cons_of_pos (by simpa using hc), List.filter_cons_of_neg (by simp; omega), List.filter_cons_of_neg (by simp; omega), List.cons_append, List.cons_append, ← ih]
    · have e1 : R.filter (fun e => decide (e.2.1 < c)) = [] := by
        rw [List.filter_eq_nil_iff]; intro b hb2; have := hb b hb2; simp; omega
      rw [List.filter_cons_of_neg (by simp; omega), List.filter_cons_of_pos (by simpa using hc), List.filter_cons_of_neg (by simp; omega), e1]
      rw [e1] at ih
      simp only [List.nil_append, List.cons_append] at ih ⊢
      rw [← ih]
    · have e1 : R.filter (fun e => decide (e.2.1 < c)) = [] := by
        rw [List.filter_eq_nil_iff]; intro b hb2; have := hb b hb2; simp; omega
      have e2 : R.filter (fun e => decide (e.2.1 = c)) = [] := by
        rw [List.filter_eq_nil_iff]; intro b hb2; have := hb b hb2; simp; omega
      rw [List.filter_cons_of_neg (by simp; omega), List.filter_cons_of_neg (by simp; omega), List.filter_cons_of_pos (by simpa using hc), e1, e2]
      rw [e1, e2] at ih
      simp only [List.nil_append] at ih ⊢
      rw [← ih]
/-- those of one label are in order, as they were -/
theorem same_label {L R : List E3} (hL : Gm.Strict L) (hp : R.Perm L) (hs : Gm.S2 R) (c : Int) : R.filter (fun e => decide (e.2.1 = c)) = L.filter (fun e => decide (e.2.1 = c)) := by
  refine Gm.strict_one _ _ ?_ (List.Pairwise.sublist (List.filter_sublist) hL) (fun x => ?_)
  · have h1 : (R.filter (fun e => decide (e.2.1 = c))).Pairwise (fun a b => Gm.lt2 a b = true) := List.Pairwise.sublist (List.filter_sublist) hs
    refine h1.imp_of_mem (fun {a b} ha hb hab => ?_)
    have e1 := (List.mem_filter.1 ha).2
    have e2 := (List.mem_filter.1 hb).2
    simp at e1 e2
    rcases (Gm.lt2_iff a b).1 hab with h | h
    · omega
    · exact h.2
  · rw [List.mem_filter, List.mem_filter, hp.mem_iff]
/-- labels that are none below 0 -/
abbrev Lab0 (L : List E3) : Prop := ∀ e ∈ L, 0 ≤ e.2.1 ∧ 0 ≤ e.2.2
theorem bel_labs (L : List E3) (h0 : Lab0 L) (c : Nat) : bel (labs L) 0 (labs L).length c = (L.filter (fun e => decide (e.2.1 < (c : Int)))).length := by
  unfold bel labs
  rw [List.take_length, List.drop_zero, List.filter_map, List.length_map]
  congr 1
  refine List.filter_congr (fun e he => ?_)
  have := h0 e he
  simp only [Function.comp]
  rw [Bool.eq_iff_iff]; simp; omega
theorem cnt_labs (L : List E3) (h0 : Lab0 L) (c i : Nat) (hi : i ≤ L.length) : cnt (eqf (labs L) c) i = ((L.take i).filter (fun e => decide (e.2.1 = (c : Int)))).length := by
  rw [cnt_eqf _ _ _ (by simpa [labs] using hi)]
  unfold labs
  rw [← List.map_take, List.filter_map, List.length_map]
  congr 1
  refine List.filter_congr (fun e he => ?_)
  have := h0 e (List.mem_of_mem_take he)
  simp only [Function.comp]
  rw [Bool.eq_iff_iff]; simp; omega
theorem mid {α : Type} (A B C D : List α) : ((A ++ B ++ (C ++ D)).take (A.length + (B.length + C.length))).drop (A.length + B.length) = C := by
  have h1 : (A ++ B ++ (C ++ D)).take (A.length + (B.length + C.length)) = A ++ B ++ C := by
    rw [← List.append_assoc, List.take_left' (by simp only [List.length_append]; omega)]
  rw [h1, List.drop_left' (by simp)]
/-- where those of one label, from a stretch of places, lie -/
theorem seg_label {L R : List E3} (hL : Gm.Strict L) (hp : R.Perm L) (hs : Gm.S2 R) (h0 : Lab0 L) (c a b : Nat) (hab : a ≤ b) (hb : b ≤ L.length) :
    (R.take (bel (labs L) 0 (labs L).length c + cnt (eqf (labs L) c) b)).drop (bel (labs L) 0 (labs L).length c + cnt (eqf (labs L) c) a) = ((L.take b).drop a).filter (fun e => decide (e.2.1 = (c : Int))) := by
  have hsp := sorted_split R hs (c : Int)
  rw [same_label hL hp hs] at hsp
  have hlen : (R.filter (fun e => decide (e.2.1 < (c : Int)))).length = bel (labs L) 0 (labs L).length c := by
    rw [bel_labs L h0, ← List.countP_eq_length_filter, ← List.countP_eq_length_filter]
    exact hp.countP_eq _
  have e1 : L = L.take a ++ (L.take b).drop a ++ L.drop b := by
    have h1 : L.take a ++ (L.take b).drop a = L.take b := by
      have := List.take_append_drop a (L.take b)
      rwa [List.take_take, Nat.min_eq_left hab] at this
    rw [h1, List.take_append_drop]
  have hf : L.filter (fun e => decide (e.2.1 = (c : Int))) = (L.take a).filter (fun e => decide (e.2.1 = (c : Int))) ++ ((L.take b).drop a).filter (fun e => decide (e.2.1 = (c : Int))) ++ (L.drop b).filter (fun e => decide (e.2.1 = (c : Int))) := by
    conv => lhs; rw [e1, List.filter_append, List.filter_append]
  have ca := cnt_labs L h0 c a (by omega)
  have cb : cnt (eqf (labs L) c) b = ((L.take a).filter (fun e => decide (e.2.1 = (c : Int)))).length + (((L.take b).drop a).filter (fun e => decide (e.2.1 = (c : Int)))).length := by
    rw [cnt_labs L h0 c b hb]
    have h1 : L.take a ++ (L.take b).drop a = L.take b := by
      have := List.take_append_drop a (L.take b)
      rwa [List.take_take, Nat.min_eq_left hab] at this
    conv => lhs; rw [← h1, List.filter_append, List.length_append]
  rw [hf] at hsp
  generalize (R.filter (fun e => decide (e.2.1 < (c : Int)))) = A at hsp hlen
  generalize (L.take a).filter (fun e => decide (e.2.1 = (c : Int))) = B at hsp ca cb
  generalize ((L.take b).drop a).filter (fun e => decide (e.2.1 = (c : Int))) = C at hsp cb ⊢
  rw [← hlen, ca, cb]
  have e2 : R = (A ++ B) ++ (C ++ ((L.drop b).filter (fun e => decide (e.2.1 = (c : Int))) ++ R.filter (fun e => decide ((c : Int) < e.2.1)))) := by
    conv => lhs; rw [hsp]
    simp only [List.append_assoc]
  generalize ((L.drop b).filter (fun e => decide (e.2.1 = (c : Int))) ++ R.filter (fun e => decide ((c : Int) < e.2.1))) = D at e2
  rw [e2]
  exact mid A B C D
theorem take_drop_one {α : Type} (l : List α) (p : Nat) (e : α) (h : l[p]? = some e) : (l.take (p + 1)).drop p = [e] := by
  have hp := (List.getElem?_eq_some_iff.1 h).1
  rw [List.take_add_one, h, List.drop_append_of_le_length (by simp; omega), List.drop_of_length_le (by simp; omega)]; rfl
theorem one_of_seg {α : Type} (l : List α) (p : Nat) (e : α) (h : (l.take (p + 1)).drop p = [e]) : l[p]? = some e := by
  have h1 : ((l.take (p + 1)).drop p)[0]? = some e := by rw [h]; rfl
  rwa [List.getElem?_drop, Nat.add_zero, List.getElem?_take_of_lt (by omega)] at h1
theorem eqf_at (l : List Nat) (p c : Nat) (h : l[p]? = some c) : cnt (eqf l c) (p + 1) = cnt (eqf l c) p + 1 := by
  rw [cnt_succ]; unfold eqf; rw [h]; simp
/-- where an edge lies by labels -/
theorem pos_label {L R : List E3} (hL : Gm.Strict L) (hp : R.Perm L) (hs : Gm.S2 R) (h0 : Lab0 L) (p c : Nat) (e : E3) (he : L[p]? = some e) (hc : e.2.1 = (c : Int)) :
    R[bel (labs L) 0 (labs L).length c + cnt (eqf (labs L) c) p]? = some e := by
  have hlt := (List.getElem?_eq_some_iff.1 he).1
  have h := seg_label hL hp hs h0 c p (p + 1) (by omega) (by omega)
  rw [take_drop_one L p e he, eqf_at (labs L) p c (by unfold labs; rw [List.getElem?_map, he]; simp; omega), ← Nat.add_assoc] at h
  rw [List.filter_cons_of_pos (by simpa using hc), List.filter_nil] at h
  exact one_of_seg _ _ _ h
/-- the number that would be at q, if a list were in order, is at t -/
def Pl (l : List Nat) (q t : Nat) : Prop := ∃ c, l[t]? = some c ∧ bel l 0 l.length c + cnt (eqf l c) t = q
theorem filter_lt_le (l : List Nat) (a b : Nat) (h : a ≤ b) : (l.filter (fun z => decide (z < a))).length ≤ (l.filter (fun z => decide (z < b))).length := by
  rw [← List.countP_eq_length_filter, ← List.countP_eq_length_filter]
  exact List.countP_mono_left (fun x _ hx => by simp at hx ⊢; omega)
theorem filter_lt_eq (l : List Nat) (a b : Nat) (h : a < b) : (l.filter (fun z => decide (z < a))).length + (l.filter (fun z => z == a)).length ≤ (l.filter (fun z => decide (z < b))).length := by
  induction l with
  | nil => simp
  | cons z r ih =>
    simp only [List.filter_cons]
    by_cases h1 : z < a
    · have e2 : (z == a) = false := by simp; omega
      have e3 : z < b := by omega
      simp only [h1, e2, e3, decide_true, if_true, Bool.false_eq_true, if_false, List.length_cons]; omega
    · by_cases h2 : z = a
      · subst h2
        simp only [h1, h, decide_true, decide_false, if_true, Bool.false_eq_true, if_false, List.length_cons, beq_self_eq_true]; omega
      · have e2 : (z == a) = false := by simpa using h2
        simp only [h1, e2, decide_false, Bool.false_eq_true, if_false]
        split <;> simp <;> omega
theorem bel_whole (l : List Nat) (c : Nat) : bel l 0 l.length c = (l.filter (fun z => decide (z < c))).length := by unfold bel; rw [List.take_length, List.drop_zero]
theorem eqn_whole (l : List Nat) (c : Nat) : eqn l 0 l.length c = (l.filter (fun z => z == c)).length := by unfold eqn; rw [List.take_length, List.drop_zero]
theorem cnt_lt_at (l : List Nat) (t c : Nat) (h : l[t]? = some c) : cnt (eqf l c) t < eqn l 0 l.length c := by
  have hlt := (List.getElem?_eq_some_iff.1 h).1
  have h1 := eqf_at l t c h
  have h2 := cnt_mono (eqf l c) (show t + 1 ≤ l.length by omega)
  have h3 := eqn_cnt (l := l) (x := 0) (y := l.length) c (Nat.zero_le _) (Nat.le_refl _)
  have h4 : cnt (eqf l c) 0 = 0 := rfl
  omega
/-- it lies between the numbers of a span just if it is one of them -/
theorem Pl.span {l : List Nat} {q t c : Nat} (h : Pl l q t) (hc : l[t]? = some c) (a b : Nat) : (bel l 0 l.length a ≤ q ∧ q < bel l 0 l.length b) ↔ (a ≤ c ∧ c < b) := by
  obtain ⟨c', hc', hq⟩ := h
  rw [hc] at hc'
  cases hc'
  have h1 := cnt_lt_at l t c hc
  rw [eqn_whole] at h1
  rw [bel_whole] at hq ⊢
  rw [bel_whole]
  constructor
  · rintro ⟨h2, h3⟩
    constructor
    · rcases Nat.lt_or_ge c a with h | h
      · have := filter_lt_eq l c a h; omega
      · exact h
    · rcases Nat.lt_or_ge c b with h | h
      · exact h
      · have := filter_lt_le l b c h; omega
  · rintro ⟨h2, h3⟩
    have e1 := filter_lt_le l a c h2
    have e2 := filter_lt_eq l c b h3
    omega
theorem Pl.lt {l : List Nat} {q t : Nat} (h : Pl l q t) : q < l.length ∧ t < l.length := by
  obtain ⟨c, hc, hq⟩ := h
  have h1 := cnt_lt_at l t c hc
  rw [eqn_whole] at h1
  rw [bel_whole] at hq
  have h2 := filter_lt_eq l c (c + 1) (by omega)
  have h3 := List.length_filter_le (fun z => decide (z < c + 1)) l
  exact ⟨by omega, (List.getElem?_eq_some_iff.1 hc).1⟩
theorem Pl.q_one {l : List Nat} {q q' t : Nat} (h : Pl l q t) (h' : Pl l q' t) : q = q' := by
  obtain ⟨c, hc, hq⟩ := h
  obtain ⟨c', hc', hq'⟩ := h'
  rw [hc] at hc'; cases hc'
  omega
theorem Pl.t_one {l : List Nat} {q t t' : Nat} (h : Pl l q t) (h' : Pl l q t') : t = t' := by
  obtain ⟨c, hc, hq⟩ := h
  obtain ⟨c', hc', hq'⟩ := h'
  have h1 := cnt_lt_at l t c hc
  have h2 := cnt_lt_at l t' c' hc'
  rw [eqn_whole] at h1 h2
  rw [bel_whole] at hq hq'
  have e : c = c' := least_uniq (s := l) (k := q) (by omega) (by omega) (by omega) (by omega)
  subst e
  exact cnt_uniq (eqf l c) (by unfold eqf; rw [hc]; simp) (by unfold eqf; rw [hc']; simp) (by omega)
/-- what the k-th least number and its place are -/
theorem pl_of {l : List Nat} {q c t : Nat} (ht : l[t]? = some c) (hk : cnt (eqf l c) t = q - bel l 0 l.length c) (h1 : bel l 0 l.length c ≤ q) : Pl l q t := ⟨c, ht, by omega⟩
theorem pl_find {l : List Nat} {q c : Nat} (h1 : bel l 0 l.length c ≤ q) (h2 : q < bel l 0 l.length c + eqn l 0 l.length c) : ∃ t, l[t]? = some c ∧ cnt (eqf l c) t = q - bel l 0 l.length c := by
  have h3 := eqn_cnt (l := l) (x := 0) (y := l.length) c (Nat.zero_le _) (Nat.le_refl _)
  have h4 : cnt (eqf l c) 0 = 0 := rfl
  obtain ⟨t, _, h6, h7⟩ := cnt_find (eqf l c) (q - bel l 0 l.length c) l.length (by omega)
  exact ⟨t, by unfold eqf at h6; simpa using h6, h7⟩
theorem pl_at {l : List Nat} {t c : Nat} (h : l[t]? = some c) : Pl l (bel l 0 l.length c + cnt (eqf l c) t) t := ⟨c, h, rfl⟩
/-- places by labels: the edge that lies at t there lies at p in order -/
theorem pl_labs {L R : List E3} (hL : Gm.Strict L) (hp : R.Perm L) (hs : Gm.S2 R) (h0 : Lab0 L) {t p : Nat} (h : Pl (labs L) t p) : R[t]? = L[p]? ∧ p < L.length := by
  obtain ⟨c, hc, rfl⟩ := h
  have hlt := (List.getElem?_eq_some_iff.1 hc).1
  unfold labs at hlt
  rw [List.length_map] at hlt
  have he := List.getElem?_eq_getElem hlt
  have hl : L[p].2.1.toNat = c := by
    unfold labs at hc
    rw [List.getElem?_map, he] at hc
    simpa using hc
  have := h0 _ (List.mem_of_getElem? he)
  rw [pos_label hL hp hs h0 p c _ he (by omega), he]
  exact ⟨rfl, hlt⟩
/-- two steps: from the place of a number of the targets, in order, to that of an edge -/
def Pl2 (L R : List E3) (q p : Nat) : Prop := ∃ t, Pl (tos R) q t ∧ Pl (labs L) t p
theorem Pl2.one {L R : List E3} {q q' p : Nat} (h : Pl2 L R q p) (h' : Pl2 L R q' p) : q = q' := by
  obtain ⟨t, h1, h2⟩ := h
  obtain ⟨t', h1', h2'⟩ := h'
  have := h2.q_one h2'
  subst this
  exact h1.q_one h1'
theorem Pl2.p_one {L R : List E3} {q p p' : Nat} (h : Pl2 L R q p) (h' : Pl2 L R q p') : p = p' := by
  obtain ⟨t, h1, h2⟩ := h
  obtain ⟨t', h1', h2'⟩ := h'
  have := h1.t_one h1'
  subst this
  exact h2.t_one h2'
theorem Pl2.lt {L R : List E3} {q p : Nat} (h : Pl2 L R q p) : p < L.length := by
  obtain ⟨t, _, h2⟩ := h
  have := h2.lt.2
  unfold labs at this
  rwa [List.length_map] at this
theorem Pl2.span {L R : List E3} (hL : Gm.Strict L) (hp : R.Perm L) (hs : Gm.S2 R) (h0 : Lab0 L) {q p : Nat} (h : Pl2 L R q p) {e : E3} (he : L[p]? = some e) (a b : Nat) : (bel (tos R) 0 (tos R).length a ≤ q ∧ q < bel (tos R) 0 (tos R).length b) ↔ ((a : Int) ≤ e.2.2 ∧ e.2.2 < (b : Int)) := by
  obtain ⟨t, h1, h2⟩ := h
  have h3 := (pl_labs hL hp hs h0 h2).1
  rw [he] at h3
  have := h0 e (List.mem_of_getElem? he)
  rw [h1.span (c := e.2.2.toNat) (by unfold tos; rw [List.getElem?_map, h3]; rfl) a b]
  omega
theorem pl2_ex {L R : List E3} (hL : Gm.Strict L) (hp : R.Perm L) (hs : Gm.S2 R) (h0 : Lab0 L) {p : Nat} (h : p < L.length) : ∃ q, Pl2 L R q p := by
  have he := List.getElem?_eq_getElem h
  have hc : (labs L)[p]? = some L[p].2.1.toNat := by unfold labs; rw [List.getElem?_map, he]; rfl
  have h2 := pl_at hc
  have h3 := (pl_labs hL hp hs h0 h2).1
  rw [he] at h3
  exact ⟨_, _, pl_at (c := L[p].2.2.toNat) (by unfold tos; rw [List.getElem?_map, h3]; rfl), h2⟩
/-! ### places that are told -/
/-- the places of a list at which something holds -/
def at_ (L : List E3) (f : E3 → Bool) : List Nat := (List.range L.length).filter fun p => (L[p]?).any f
theorem at_mem (L : List E3) (f : E3 → Bool) (p : Nat) : p ∈ at_ L f ↔ ∃ e, L[p]? = some e ∧ f e = true := by
  unfold at_
  rw [List.mem_filter, List.mem_range]
  constructor
  · rintro ⟨h1, h2⟩
    rw [List.getElem?_eq_getElem h1] at h2 ⊢
    exact ⟨_, rfl, by simpa using h2⟩
  · rintro ⟨e, h1, h2⟩
    exact ⟨(List.getElem?_eq_some_iff.1 h1).1, by rw [h1]; simpa using h2⟩
theorem at_rising (L : List E3) (f : E3 → Bool) : (at_ L f).Pairwise (· < ·) := List.Pairwise.sublist List.filter_sublist List.pairwise_lt_range
theorem at_map (L : List E3) (f : E3 → Bool) : (at_ L f).map (fun p => L.getD p (0, 0, 0)) = L.filter f := by
  have h : ∀ (n : Nat), n ≤ L.length → (((List.range n).filter fun p => (L[p]?).any f).map (fun p => L.getD p (0, 0, 0))) = (L.take n).filter f := by
    intro n
    induction n with
    | zero => intro _; rfl
    | succ n ih =>
      intro hn
      have he := List.getElem?_eq_getElem (l := L) (i := n) (by omega)
      rw [List.range_succ, List.filter_append, List.map_append, ih (by omega), List.take_add_one, he, List.filter_append]
      congr 1
      simp only [List.filter_cons, List.filter_nil, he, Option.any_some, Option.toList_some]
      split
      · simp [List.getD_eq_getElem?_getD, he]
      · rfl
  have := h L.length (Nat.le_refl _)
  rwa [List.take_length] at this
theorem at_len (L : List E3) (f : E3 → Bool) : (at_ L f).length = (L.filter f).length := by rw [← at_map, List.length_map]
theorem rising_one : ∀ (l m : List Nat), l.Pairwise (· < ·) → m.Pairwise (· < ·) → (∀ x, x ∈ l ↔ x ∈ m) → l = m
  | [], [], _, _, _ => rfl
  | [], b :: m, _, _, h => by have := (h b).2 (List.mem_cons_self ..); cases this
  | a :: l, [], _, _, h => by have := (h a).1 (List.mem_cons_self ..); cases this
  | a :: l, b :: m, hl, hm, h => by
    rw [List.pairwise_cons] at hl hm
    have e : a = b := by
      rcases List.mem_cons.1 ((h a).1 (List.mem_cons_self ..)) with e | ha
      · exact e
      · rcases List.mem_cons.1 ((h b).2 (List.mem_cons_self ..)) with e | hb
        · exact e.symm
        · have h1 := hm.1 a ha
          have h2 := hl.1 b hb
          omega
    subst e
    rw [rising_one l m hl.2 hm.2 (fun x => ?_)]
    constructor
    · intro hx
      rcases List.mem_cons.1 ((h x).1 (List.mem_cons_of_mem _ hx)) with e | hx'
      · have := hl.1 x hx; omega
      · exact hx'
    · intro hx
      rcases List.mem_cons.1 ((h x).2 (List.mem_cons_of_mem _ hx)) with e | hx'
      · have := hm.1 x hx; omega
      · exact hx'
/-- places that were found, one for each of a stretch, and put in order -/
theorem found_places {L R : List E3} (hL : Gm.Strict L) (hp : R.Perm L) (hs : Gm.S2 R) (h0 : Lab0 L) (a b : Nat) (P S : List Nat)
    (hP : P.length = bel (tos R) 0 (tos R).length b - bel (tos R) 0 (tos R).length a) (hq : ∀ i p, P[i]? = some p → Pl2 L R (bel (tos R) 0 (tos R).length a + i) p)
    (hS : S.Perm P) (hso : S.Pairwise (· ≤ ·)) : S = at_ L (fun e => decide ((a : Int) ≤ e.2.2 ∧ e.2.2 < (b : Int))) := by
  have hmem : ∀ p, p ∈ P ↔ ∃ q, Pl2 L R q p ∧ bel (tos R) 0 (tos R).length a ≤ q ∧ q < bel (tos R) 0 (tos R).length b := by
    intro p
    constructor
    · intro h
      obtain ⟨i, hi⟩ := List.getElem?_of_mem h
      have := (List.getElem?_eq_some_iff.1 hi).1
      exact ⟨_, hq i p hi, by omega, by omega⟩
    · rintro ⟨q, h1, h2, h3⟩
      have hi := List.getElem?_eq_getElem (l := P) (i := q - bel (tos R) 0 (tos R).length a) (by omega)
      have h4 := hq _ _ hi
      rw [show bel (tos R) 0 (tos R).length a + (q - bel (tos R) 0 (tos R).length a) = q by omega] at h4
      rw [h1.p_one h4]
      exact List.mem_of_getElem? hi
  have hnd : P.Nodup := by
    rw [List.nodup_iff_pairwise_ne, List.pairwise_iff_getElem]
    intro i j hi hj hij e
    have h1 := hq i _ (List.getElem?_eq_getElem hi)
    have h2 := hq j _ (List.getElem?_eq_getElem hj)
    rw [e] at h1
    have := h1.one h2
    omega
  have hnd2 : S.Nodup := hS.nodup_iff.2 hnd
  have hlt : S.Pairwise (· < ·) := by
    refine List.Pairwise.imp₂ (fun x y h1 h2 => ?_) hso hnd2
    exact Nat.lt_of_le_of_ne h1 h2
  refine rising_one _ _ hlt (at_rising _ _) (fun p => ?_)
  rw [hS.mem_iff, hmem, at_mem]
  constructor
  · rintro ⟨q, h1, h2⟩
    have he := List.getElem?_eq_getElem h1.lt
    exact ⟨_, he, by simpa using (h1.span hL hp hs h0 he a b).1 h2⟩
  · rintro ⟨e, he, hf⟩
    obtain ⟨q, h1⟩ := pl2_ex (R := R) hL hp hs h0 ((List.getElem?_eq_some_iff.1 he).1)
    exact ⟨q, h1, (h1.span hL hp hs h0 he a b).2 (by simpa using hf)⟩
/-! ### places of edges from nodes -/
theorem from_seg (L : List E3) (hr : Gm.Rising L) (u v : Nat) : (L.take (Gm.ah L v)).drop (Gm.ah L u) = L.filter (fun e => decide ((u : Int) ≤ e.1 ∧ e.1 < (v : Int))) := by
  rw [← at_map]
  have h : at_ L (fun e => decide ((u : Int) ≤ e.1 ∧ e.1 < (v : Int))) = (List.range (Gm.ah L v)).filter (fun p => decide (Gm.ah L u ≤ p)) := by
    refine rising_one _ _ (at_rising _ _) (List.Pairwise.sublist List.filter_sublist List.pairwise_lt_range) (fun p => ?_)
    rw [at_mem, List.mem_filter, List.mem_range]
    have hle := Gm.ah_le L v
    constructor
    · rintro ⟨e, he, hf⟩
      have h1 := Gm.ah_at L u p e hr he
      have h2 := Gm.ah_at L v p e hr he
      simp at hf
      exact ⟨h2.1 hf.2, by simp; exact Nat.le_of_not_lt fun h => by have := h1.2 h; omega⟩
    · rintro ⟨h1, h2⟩
      have he := List.getElem?_eq_getElem (l := L) (i := p) (by omega)
      have h3 := Gm.ah_at L u p _ hr he
      have h4 := Gm.ah_at L v p _ hr he
      refine ⟨_, he, ?_⟩
      simp at h2 ⊢
      exact ⟨Int.not_lt.1 fun h => by have := h3.1 h; omega, h4.2 h1⟩
  rw [h]
  apply List.ext_getElem?
  intro i
  rw [List.getElem?_drop]
  have hr2 : (List.range (Gm.ah L v)).filter (fun p => decide (Gm.ah L u ≤ p)) = (List.range (Gm.ah L v - Gm.ah L u)).map (fun i => Gm.ah L u + i) := by
    refine rising_one _ _ (List.Pairwise.sublist List.filter_sublist List.pairwise_lt_range) (List.pairwise_map.2 (List.pairwise_lt_range.imp (fun h => by omega))) (fun p => ?_)
    rw [List.mem_filter, List.mem_range, List.mem_map]
    constructor
    · rintro ⟨h1, h2⟩
      simp at h2
      exact ⟨p - Gm.ah L u, by rw [List.mem_range]; omega, by omega⟩
    · rintro ⟨j, h1, rfl⟩
      rw [List.mem_range] at h1
      exact ⟨by omega, by simp⟩
  have hle := Gm.ah_le L v
  rw [hr2, List.map_map]
  by_cases hi : i < Gm.ah L v - Gm.ah L u
  · rw [List.getElem?_take_of_lt (by omega), List.getElem?_map, List.getElem?_range hi, Option.map_some, Function.comp, List.getD_eq_getElem?_getD, List.getElem?_eq_getElem (by omega)]; rfl
  · rw [List.getElem?_eq_none (by simp; omega), List.getElem?_eq_none (by simp; omega)]
/-! ### counting -/
theorem bel_seg (R : List E3) (h0 : Lab0 R) (x y c : Nat) : bel (tos R) x y c = (((R.take y).drop x).filter (fun e => decide (e.2.2 < (c : Int)))).length := by
  unfold bel tos
  rw [← List.map_take, ← List.map_drop, List.filter_map, List.length_map]
  congr 1
  refine List.filter_congr (fun e he => ?_)
  have := h0 e (List.mem_of_mem_take (List.mem_of_mem_drop he))
  simp only [Function.comp]
  rw [Bool.eq_iff_iff]; simp; omega
theorem span_len (S : List E3) (a b : Int) (h : a ≤ b) : (S.filter (fun e => decide (e.2.2 < b))).length = (S.filter (fun e => decide (e.2.2 < a))).length + (S.filter (fun e => decide (a ≤ e.2.2 ∧ e.2.2 < b))).length := by
  induction S with
  | nil => rfl
  | cons z S ih =>
    simp only [List.filter_cons, decide_eq_true_eq]
    split <;> split <;> split <;> (try simp only [List.length_cons]) <;> omega
/-- is an edge within spans? -/
def inB (f1 f2 l1 l2 t1 t2 : Int) (e : E3) : Bool := decide (f1 ≤ e.1 ∧ e.1 < f2) && decide (l1 ≤ e.2.1 ∧ e.2.1 < l2) && decide (t1 ≤ e.2.2 ∧ e.2.2 < t2)
/-- one label's share -/
theorem count_label {L R : List E3} (hL : Gm.Strict L) (hp : R.Perm L) (hs : Gm.S2 R) (h0 : Lab0 L) (u v c a b : Nat) (huv : u ≤ v) (hab : a ≤ b) :
    bel (tos R) (bel (labs L) 0 (labs L).length c + cnt (eqf (labs L) c) (Gm.ah L u)) (bel (labs L) 0 (labs L).length c + cnt (eqf (labs L) c) (Gm.ah L v)) b
      = bel (tos R) (bel (labs L) 0 (labs L).length c + cnt (eqf (labs L) c) (Gm.ah L u)) (bel (labs L) 0 (labs L).length c + cnt (eqf (labs L) c) (Gm.ah L v)) a + (L.filter (inB u v c (c + 1) a b)).length := by
  have hr0 : Lab0 R := fun e he => h0 e (hp.mem_iff.1 he)
  rw [bel_seg R hr0, bel_seg R hr0, seg_label hL hp hs h0 c _ _ (Gm.ah_mono L huv) (Gm.ah_le L v), from_seg L (Gm.strict_rising hL), span_len _ (a : Int) (b : Int) (by omega)]
  congr 2
  rw [List.filter_filter, List.filter_filter]
  refine List.filter_congr (fun e _ => ?_)
  unfold inB
  rw [Bool.eq_iff_iff]
  simp
  omega
theorem count_step (L : List E3) (f1 f2 t1 t2 : Int) (a c : Nat) (h : a ≤ c) : (L.filter (inB f1 f2 a (c + 1 : Nat) t1 t2)).length = (L.filter (inB f1 f2 a c t1 t2)).length + (L.filter (inB f1 f2 c (c + 1) t1 t2)).length := by
  induction L with
  | nil => rfl
  | cons z S ih =>
    simp only [List.filter_cons]
    have e : ∀ x y : Int, inB f1 f2 x y t1 t2 z = ((decide (f1 ≤ z.1 ∧ z.1 < f2) && decide (t1 ≤ z.2.2 ∧ z.2.2 < t2)) && decide (x ≤ z.2.1 ∧ z.2.1 < y)) := fun x y => by
      unfold inB; rw [Bool.and_right_comm]
    rw [e, e, e]
    generalize (decide (f1 ≤ z.1 ∧ z.1 < f2) && decide (t1 ≤ z.2.2 ∧ z.2.2 < t2)) = g
    cases g
    · simpa only [Bool.false_and, Bool.false_eq_true, if_false] using ih
    · simp only [Bool.true_and, decide_eq_true_eq]
      split <;> split <;> split <;> (try simp only [List.length_cons]) <;> omega
theorem count_none (L : List E3) (f1 f2 t1 t2 a : Int) : (L.filter (inB f1 f2 a a t1 t2)).length = 0 := by
  rw [List.length_eq_zero_iff, List.filter_eq_nil_iff]
  intro e _
  unfold inB
  simp
  omega
end Go.Proofs.YtphjbbbnbmafnabGreatDoor.G
