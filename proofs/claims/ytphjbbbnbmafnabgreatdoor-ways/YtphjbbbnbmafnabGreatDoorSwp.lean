/-
  A graph and its pages are read as they were written: without the program. What is read of an image and built anew as the same bytes is the image of what was read; an image is that of one graph alone. No condition.
  slices' swapRange and rotate over a block of edges: two stretches change places; nothing else is written.
-/
import Derived.Test.YtphjbbbnbmafnabGreatDoorPEdg
import Derived.Test.YtphjbbbnbmafnabGreatDoorKnown
import Derived.Test.YtphjbbbnbmafnabGreatDoorComp
import Derived.BigQuiet
import Derived.BigRegion
namespace Go.Proofs.YtphjbbbnbmafnabGreatDoor.G
open Go.RowKit

/-! ### bits at a place of a text -/
/-- from the place a on the text t reads as m -/
def At (t : List Bool) (a : Nat) (m : List Bool) : Prop := ∀ i, i < m.length → t.getD (a + i) false = m.getD i false
theorem At.left {t : List Bool} {a : Nat} {l m : List Bool} (h : At t a (l ++ m)) : At t a l := fun i hi => by
  have := h i (by rw [List.length_append]; omega)
  rw [this, List.getD_eq_getElem?_getD, List.getD_eq_getElem?_getD, List.getElem?_append_left hi]
theorem At.right {t : List Bool} {a : Nat} {l m : List Bool} (h : At t a (l ++ m)) : At t (a + l.length) m := fun i hi => by
  have := h (l.length + i) (by rw [List.length_append]; omega)
  rw [Nat.add_assoc, this, List.getD_eq_getElem?_getD, List.getD_eq_getElem?_getD, List.getElem?_append_right (by omega), Nat.add_sub_cancel_left]
theorem At.sub {t : List Bool} {a : Nat} {m : List Bool} (h : At t a m) : sub t a m.length = m := by
  apply List.ext_getElem?
  intro i
  unfold G.sub
  by_cases hi : i < m.length
  · rw [List.getElem?_map, List.getElem?_range hi, List.getElem?_eq_getElem hi]
    have := h i hi
    rw [List.getD_eq_getElem?_getD (l := m), List.getElem?_eq_getElem hi] at this
    simp only [Option.map_some, this]; rfl
  · rw [List.getElem?_eq_none (by simp; omega), List.getElem?_eq_none (by omega)]
theorem numOf_digs : ∀ (k n : Nat), numOf (digs k n) = n % 2 ^ k
  | 0, n => by simp [digs, numOf, Nat.mod_one]
  | k + 1, n => by
    have h : ∀ (l : List Bool) (c : Nat), l.foldl (fun n b => 2 * n + b.toNat) c = c * 2 ^ l.length + numOf l := by
      intro l
      induction l with
      | nil => intro c; simp [numOf]
      | cons b l ih =>
        intro c
        unfold numOf at *
        rw [List.foldl_cons, ih, List.foldl_cons, ih (2 * 0 + b.toNat), List.length_cons, Nat.pow_succ, Nat.add_mul]
        simp
        rw [← Nat.add_assoc, Nat.mul_comm 2 c, Nat.mul_assoc, Nat.mul_comm 2]
    unfold digs
    unfold numOf
    rw [List.foldl_cons, h, digs_len, numOf_digs k n, Nat.mod_pow_succ, Nat.testBit, Nat.shiftRight_eq_div_pow]
    have : (1 &&& n / 2 ^ k != 0).toNat = n / 2 ^ k % 2 := by
      rw [Nat.and_comm, Nat.and_one_is_mod]
      rcases Nat.mod_two_eq_zero_or_one (n / 2 ^ k) with e | e <;> rw [e] <;> rfl
    rw [Nat.mul_zero, Nat.zero_add, this, Nat.mul_comm, Nat.add_comm]
theorem digs_numOf (l : List Bool) : digs l.length (numOf l) = l := by
  have hl : ∀ (k n : Nat) (b : Bool), digs (k + 1) (2 * n + b.toNat) = digs k n ++ [b] := by
    intro k
    induction k with
    | zero => intro n b; cases b <;> simp [digs] <;> omega
    | succ k ih =>
      intro n b
      unfold digs
      rw [ih, Nat.testBit_succ, show (2 * n + b.toNat) / 2 = n by cases b <;> simp <;> omega, List.cons_append]
  have hr : ∀ m : List Bool, digs m.reverse.length (numOf m.reverse) = m.reverse := by
    intro m
    induction m with
    | nil => rfl
    | cons b m ih => rw [List.reverse_cons, numOf_snoc, List.length_append, List.length_singleton, hl, ih]
  have := hr l.reverse
  rwa [List.reverse_reverse] at this
theorem At.num {t : List Bool} {a k n : Nat} (h : At t a (digs k n)) (hn : n < 2 ^ k) : numOf (G.sub t a k) = n := by
  have := h.sub
  rw [digs_len] at this
  rw [this, numOf_digs, Nat.mod_eq_of_lt hn]
theorem At.nums {t : List Bool} {k : Nat} : ∀ (l : List Nat) {a : Nat}, At t a (G.nums k l) → (∀ x ∈ l, x < 2 ^ k) → ∀ (i x : Nat), l[i]? = some x → numOf (G.sub t (a + i * k) k) = x
  | [], _, _, _, _, _, hx => by simp at hx
  | y :: l, a, h, hl, i, x, hx => by
    have h' : At t a (digs k y ++ G.nums k l) := by
      have e : G.nums k (y :: l) = digs k y ++ G.nums k l := by unfold G.nums; rw [List.flatMap_cons]
      rw [← e]; exact h
    cases i with
    | zero =>
      simp at hx; subst hx
      rw [Nat.zero_mul, Nat.add_zero]
      exact h'.left.num (hl y (by simp))
    | succ i =>
      have h2 := h'.right
      rw [digs_len] at h2
      have := At.nums l h2 (fun x hx => hl x (by simp [hx])) i x (by simpa using hx)
      rw [← this, Nat.add_mul, Nat.one_mul]
      congr 2; omega
theorem wid_lt (n : Nat) : n < 2 ^ wid n := by
  unfold wid
  split
  · rename_i h; subst h; decide
  · exact Nat.lt_log2_self
theorem lt_wid {x s : Nat} (h : x < s) : x < 2 ^ wid (s - 1) := by
  have := wid_lt (s - 1)
  omega

/-! ### where edges are from -/
def frs (l : List E3) : List Nat := l.map fun e => e.1.toNat
theorem at_ones {t : List Bool} {a j : Nat} (h : At t a (List.replicate j true ++ [false])) : (∀ i < j, t.getD (a + i) false = true) ∧ t.getD (a + j) false = false := by
  constructor
  · intro i hi
    rw [h i (by simp; omega), List.getD_eq_getElem?_getD, List.getElem?_append_left (by simpa using hi), List.getElem?_replicate, if_pos hi]; rfl
  · rw [h j (by simp), List.getD_eq_getElem?_getD, List.getElem?_append_right (by simp)]
    simp
/-- behind the bits of the first u nodes, and j ones more -/
theorem rdf_ones {t : List Bool} {a : Nat} (k : Nat) (fs : List Nat) (u : Nat) (h : rdf t a k = (fs, u)) : ∀ j, (∀ i < j, t.getD (a + k + i) false = true) → rdf t a (k + j) = (fs ++ List.replicate j u, u)
  | 0, _ => by simpa using h
  | j + 1, ho => by
    have ih := rdf_ones k fs u h j (fun i hi => ho i (by omega))
    show rdf t a ((k + j) + 1) = _
    unfold rdf
    rw [ih, ← Nat.add_assoc, ho j (by omega), if_pos rfl, List.replicate_succ', List.append_assoc]
theorem take_frs (l : List E3) (u : Nat) (hr : Gm.Rising l) (h0 : ∀ e ∈ l, 0 ≤ e.1) : frs (l.take (Gm.ah l (u + 1))) = frs (l.take (Gm.ah l u)) ++ List.replicate (Gm.ah l (u + 1) - Gm.ah l u) u := by
  have hm := Gm.ah_mono l (show u ≤ u + 1 by omega)
  have hle := Gm.ah_le l (u + 1)
  unfold frs
  apply List.ext_getElem?
  intro i
  by_cases hi : i < Gm.ah l u
  · rw [List.getElem?_append_left (by simp; omega), List.getElem?_map, List.getElem?_map, List.getElem?_take_of_lt (by omega), List.getElem?_take_of_lt hi]
  · rw [List.getElem?_append_right (by simp; omega)]
    have hlen : (List.map (fun e : E3 => e.1.toNat) (l.take (Gm.ah l u))).length = Gm.ah l u := by simp; omega
    rw [hlen]
    by_cases hi2 : i < Gm.ah l (u + 1)
    · have hx := List.getElem?_eq_getElem (l := l) (i := i) (by omega)
      rw [List.getElem?_map, List.getElem?_take_of_lt hi2, hx, List.getElem?_replicate, if_pos (by omega)]
      have h1 := (Gm.ah_at l (u + 1) i _ hr hx).2 hi2
      have h2 : ¬ _ := fun h => hi ((Gm.ah_at l u i _ hr hx).1 h)
      have h3 := h0 _ (List.mem_of_getElem? hx)
      simp only [Option.map_some]
      congr 1
      omega
    · rw [List.getElem?_eq_none (by simp; omega), List.getElem?_eq_none (by simp; omega)]
theorem rdf_srcs {t : List Bool} {a : Nat} (l : List E3) (hr : Gm.Rising l) (h0 : ∀ e ∈ l, 0 ≤ e.1) : ∀ (u : Nat), At t a (srcs l u) → rdf t a (Gm.ah l u + u) = (frs (l.take (Gm.ah l u)), u)
  | 0, _ => by rw [Gm.ah_zero l h0]; rfl
  | u + 1, h => by
    have h' : At t a (srcs l u ++ (List.replicate (Gm.ah l (u + 1) - Gm.ah l u) true ++ [false])) := h
    have ih := rdf_srcs l hr h0 u h'.left
    have h2 := h'.right
    rw [srcs_len l (Gm.ah_zero l h0)] at h2
    obtain ⟨h3, h4⟩ := at_ones h2
    have h5 := rdf_ones _ _ _ ih _ h3
    have hm := Gm.ah_mono l (show u ≤ u + 1 by omega)
    have e : Gm.ah l (u + 1) + (u + 1) = (Gm.ah l u + u + (Gm.ah l (u + 1) - Gm.ah l u)) + 1 := by omega
    rw [e]
    unfold rdf
    rw [h5, if_neg (by rw [← Nat.add_assoc, h4]; simp), take_frs l u hr h0]
theorem rdf_mono (t : List Bool) (a : Nat) {j k : Nat} (h : j ≤ k) : (rdf t a j).1.length ≤ (rdf t a k).1.length ∧ (rdf t a j).2 ≤ (rdf t a k).2 := by
  induction k with
  | zero => obtain rfl : j = 0 := by omega
            exact ⟨Nat.le_refl _, Nat.le_refl _⟩
  | succ k ih =>
    by_cases e : j = k + 1
    · subst e; exact ⟨Nat.le_refl _, Nat.le_refl _⟩
    · have := ih (by omega)
      show _ ≤ (if _ then _ else _ : List Nat × Nat).1.length ∧ _ ≤ (if _ then _ else _ : List Nat × Nat).2
      split <;> simp <;> omega
theorem stop_one {t : List Bool} {a n E K J : Nat} (h1 : Stop t a n E K) (h2 : Stop t a n E J) : K = J := by
  rcases Nat.lt_trichotomy K J with h | h | h
  · exact absurd (h2.1 K h) h1.2
  · exact h
  · exact absurd (h1.1 J h) h2.2
theorem stop_srcs {t : List Bool} {a n : Nat} (l : List E3) (hr : Gm.Rising l) (h0 : ∀ e ∈ l, 0 ≤ e.1 ∧ e.1 < (n : Int)) (hn : 1 ≤ n) (h : At t a (srcs l n)) : Stop t a n l.length (l.length + n) ∧ (rdf t a (l.length + n)).1 = frs l := by
  have hz := fun e he => (h0 e he).1
  have hall := Gm.ah_all l n (fun e he => (h0 e he).2)
  have e1 := rdf_srcs l hr hz n h
  rw [hall, List.take_length] at e1
  refine ⟨⟨fun k hk => ?_, by rw [e1]; simp⟩, by rw [e1]⟩
  have hm := rdf_mono t a (show k ≤ l.length + n by omega)
  rw [e1] at hm
  have hs := rdf_sum t a k
  have hlen : (frs l).length = l.length := by simp [frs]
  refine ⟨?_, by have := hm.1; simp only at this; omega⟩
  obtain ⟨m, rfl⟩ : ∃ m, n = m + 1 := ⟨n - 1, by omega⟩
  have h' : At t a (srcs l m ++ (List.replicate (Gm.ah l (m + 1) - Gm.ah l m) true ++ [false])) := h
  have ih := rdf_srcs l hr hz m h'.left
  have h2 := h'.right
  rw [srcs_len l (Gm.ah_zero l hz)] at h2
  have h5 := rdf_ones _ _ _ ih _ (at_ones h2).1
  have hmm := Gm.ah_mono l (show m ≤ m + 1 by omega)
  have h6 := rdf_mono t a (show k ≤ Gm.ah l m + m + (Gm.ah l (m + 1) - Gm.ah l m) by rw [hall]; omega)
  rw [h5] at h6
  have := h6.2
  simp only at this
  omega

/-! ### a graph is read as it was written -/
theorem dec {t : List Bool} {n s : Nat} {l : List E3} (hs : Gm.Strict l) (hok : okG n s l) (h : At t 0 (gbits n s l)) :
    numOf (sub t 0 14) = n ∧ numOf (sub t 14 5) = s ∧ numOf (sub t 19 15) = l.length ∧ ∀ K, Stop t 34 n l.length K → edg t 34 n s K = l ∧ K = l.length + n := by
  obtain ⟨⟨g1, g2, g3, g4, g5⟩, he⟩ := hok
  unfold gbits at h
  have h6 := h.right
  have h5 := h.left.right
  have h4 := h.left.left.right
  have h3 := h.left.left.left.right
  have h2 := h.left.left.left.left.right
  have h1 := h.left.left.left.left.left
  simp only [List.length_append, digs_len, srcs_len l (Gm.ah_zero l (fun e h => (he e h).1)), Gm.ah_all l n (fun e h => (he e h).2.1), nums_len, labs, List.length_map] at h6 h5 h4 h3 h2
  refine ⟨h1.num (by omega), h2.num (by omega), h3.num (by omega), fun K hK => ?_⟩
  have hr := Gm.strict_rising hs
  obtain ⟨hst, hfr⟩ := stop_srcs l hr (fun e h => ⟨(he e h).1, (he e h).2.1⟩) (by omega) h4
  obtain rfl := stop_one hK hst
  refine ⟨?_, rfl⟩
  unfold edg
  rw [hfr]
  apply List.ext_getElem?
  intro i
  have hfl : (frs l).length = l.length := by simp [frs]
  by_cases hi : i < l.length
  · have hx := List.getElem?_eq_getElem (l := l) (i := i) hi
    have hm := List.mem_of_getElem? hx
    rw [lst_at _ _ _ _ _ _ (by omega), hx, hfl, if_pos hi, if_pos hi]
    obtain ⟨k1, k2, k3, k4, k5, k6⟩ := he _ hm
    have e1 := At.nums (k := wid (s - 1)) _ h5 (fun x hx => by
      obtain ⟨e, hem, rfl⟩ := List.mem_map.1 hx
      have := he e hem
      exact lt_wid (by omega)) i l[i].2.1.toNat (by rw [List.getElem?_map, hx]; rfl)
    have e2 := At.nums (k := wid (n - 1)) _ h6 (fun x hx => by
      obtain ⟨e, hem, rfl⟩ := List.mem_map.1 hx
      have := he e hem
      exact lt_wid (by omega)) i l[i].2.2.toNat (by unfold tos; rw [List.getElem?_map, hx]; rfl)
    rw [show (frs l).getD i 0 = l[i].1.toNat by rw [frs, List.getD_eq_getElem?_getD, List.getElem?_map, hx]; rfl]
    rw [show 34 + (l.length + n) + i * wid (s - 1) = 0 + (14 + 5 + 15 + (l.length + n)) + i * wid (s - 1) by omega, e1]
    rw [show 34 + (l.length + n) + l.length * wid (s - 1) + i * wid (n - 1) = 0 + (14 + 5 + 15 + (l.length + n) + wid (s - 1) * l.length) + i * wid (n - 1) by rw [Nat.mul_comm l.length]; omega, e2]
    congr 1
    rw [Int.toNat_of_nonneg k1, Int.toNat_of_nonneg k3, Int.toNat_of_nonneg k5]
  · rw [List.getElem?_eq_none (by rw [lst_len]; omega), List.getElem?_eq_none (by omega)]

/-! ### pages are read as they were written -/
theorem str_get (l : List Nat) (hl : ∀ x ∈ l, x < 256) (i : Nat) : ((str l).data.toList.getD i 0).toNat = l.getD i 0 := by
  unfold str
  simp only [List.getD_eq_getElem?_getD, List.getElem?_map]
  cases h : l[i]? with
  | none => rfl
  | some x =>
    have := hl x (List.mem_of_getElem? h)
    simp; omega
theorem byt_str (l : List Nat) (hl : ∀ x ∈ l, x < 256) (a n : Nat) : byt (str l) a n = (List.range n).map fun i => l.getD (a + i) 0 := by
  unfold byt
  exact List.map_congr_left (fun i _ => str_get l hl _)
theorem range_getD (m : List Nat) : ((List.range m.length).map fun i => m.getD i 0) = m := by
  apply List.ext_getElem?
  intro i
  by_cases hi : i < m.length
  · rw [List.getElem?_map, List.getElem?_range hi, Option.map_some, List.getD_eq_getElem?_getD, List.getElem?_eq_getElem hi]; rfl
  · rw [List.getElem?_eq_none (by simp; omega), List.getElem?_eq_none (by omega)]
theorem whole_len (l : List Bool) (p : Nat) : (whole l p).length = 256 := by unfold whole; rw [List.length_append, pageB_len]; rfl
theorem pagesB_at (l : List Bool) (n p : Nat) (hp : p < n) : ((List.range 256).map fun i => (pagesB l n).getD (256 * p + i) 0) = whole l p := by
  induction n with
  | zero => omega
  | succ n ih =>
    rw [pagesB_succ]
    by_cases e : p = n
    · subst e
      refine Eq.trans (List.map_congr_left (fun i hi => ?_)) ((congrArg (fun k => (List.range k).map fun i => (whole l p).getD i 0) (whole_len l p)).symm.trans (range_getD (whole l p)))
      rw [List.getD_eq_getElem?_getD, List.getElem?_append_right (by rw [pagesB_len]; omega), pagesB_len, Nat.add_sub_cancel_left, ← List.getD_eq_getElem?_getD]
    · rw [← ih (by omega)]
      refine List.map_congr_left (fun i hi => ?_)
      have : i < 256 := by simpa using hi
      rw [List.getD_eq_getElem?_getD, List.getElem?_append_left (by rw [pagesB_len]; omega), ← List.getD_eq_getElem?_getD]
theorem map_range_take {α : Type} (f : Nat → α) (a b : Nat) : (List.range (a + b)).map f = (List.range a).map f ++ (List.range b).map fun i => f (a + i) := by
  rw [List.range_add, List.map_append, List.map_map]; rfl
theorem image_page (l : List Bool) (p : Nat) (hp : p < npages l.length) : byt (image l) (256 * p) 252 = pageB l p 252 ∧ pageOk (image l) p := by
  have hb := fun x h => pagesB_lt l (npages l.length) x h
  have h1 : byt (image l) (256 * p) 252 ++ byt (image l) (256 * p + 252) 4 = whole l p := by
    rw [← byt_append, image, byt_str _ hb, pagesB_at l _ p hp]
  unfold whole at h1
  obtain ⟨h2, h3⟩ := List.append_inj h1 (by rw [byt_len, pageB_len])
  exact ⟨h2, by unfold pageOk; rw [h3, h2]⟩
theorem nums_pageB (l : List Bool) (p : Nat) : ∀ i, nums 8 (pageB l p i) = sub l (2016 * p) (8 * i)
  | 0 => rfl
  | i + 1 => by
    rw [pageB_succ, nums_snoc, nums_pageB l p i]
    have h := digs_numOf (sub l (2016 * p + 8 * i) 8)
    rw [sub_len] at h
    rw [h]
    unfold sub
    rw [show 8 * (i + 1) = 8 * i + 8 by omega, map_range_take (fun i => l.getD (2016 * p + i) false)]
    refine congrArg (fun m => _ ++ m) (List.map_congr_left (fun k _ => ?_))
    rw [Nat.add_assoc]
theorem textN_image (l : List Bool) : ∀ k, k ≤ npages l.length → textN (image l) k = sub l 0 (2016 * k)
  | 0, _ => rfl
  | k + 1, hk => by
    show textN (image l) k ++ _ = _
    rw [textN_image l k (by omega), (image_page l k (by omega)).1, nums_pageB]
    have e : sub l 0 (2016 * k + 8 * 252) = sub l 0 (2016 * k) ++ sub l (2016 * k) (8 * 252) := by
      unfold sub
      rw [map_range_take (fun i => l.getD (0 + i) false)]
      refine congrArg (fun m => _ ++ m) (List.map_congr_left (fun j _ => ?_))
      rw [Nat.zero_add]
    rw [show 2016 * (k + 1) = 2016 * k + 8 * 252 by omega, e]
theorem npages_le (k : Nat) : k ≤ 2016 * npages k := by unfold npages; omega
/-- the text of an image reads as what was written -/
theorem text_at (l : List Bool) : At (textN (image l) (npages l.length)) 0 l := fun i hi => by
  have h := npages_le l.length
  rw [textN_image l _ (Nat.le_refl _), Nat.zero_add]
  unfold sub
  rw [List.getD_eq_getElem?_getD, List.getElem?_map, List.getElem?_range (by omega), Option.map_some, Option.getD_some, Nat.zero_add]

/-! ### what an image is -/
/-- this is the image of this graph -/
def Is (img : ByteArray) (n s : Nat) (l : List E3) : Prop := okG n s l ∧ Gm.Strict l ∧ img = image (gbits n s l)
theorem okG_len {n s : Nat} {l : List E3} (h : okG n s l) : (gbits n s l).length ≤ 2016000 ∧ 34 < (gbits n s l).length := by
  obtain ⟨⟨g1, g2, g3, g4, g5⟩, he⟩ := h
  have h0 := Gm.ah_zero l (fun e h => (he e h).1)
  have hn := Gm.ah_all l n (fun e h => (he e h).2.1)
  refine ⟨gbits_le n s l h0 hn (by omega) (by omega) (by omega), ?_⟩
  rw [gbits_len n s l h0 hn]
  omega
theorem Is.size {img : ByteArray} {n s : Nat} {l : List E3} (h : Is img n s l) : sizeOkI img ∧ img.size = 256 * npages (gbits n s l).length ∧ npages (gbits n s l).length ≤ 1000 ∧ npages (gbits n s l).length ≠ 0 ∧ ∀ p < npages (gbits n s l).length, pageOk img p := by
  obtain ⟨h1, h2, rfl⟩ := h
  obtain ⟨h3, h4⟩ := okG_len h1
  have hs := image_size (gbits n s l)
  have hp : npages (gbits n s l).length ≤ 1000 := by unfold npages; omega
  have hq : npages (gbits n s l).length ≠ 0 := by unfold npages; omega
  exact ⟨⟨by omega, by omega, by omega⟩, hs, hp, hq, fun p hp => (image_page _ p hp).2⟩
theorem Is.read {img : ByteArray} {n s : Nat} {l : List E3} (h : Is img n s l) {np : Nat} (hnp : img.size = 256 * np) :
    numOf (sub (textN img np) 0 14) = n ∧ numOf (sub (textN img np) 14 5) = s ∧ numOf (sub (textN img np) 19 15) = l.length ∧ ∀ K, Stop (textN img np) 34 n l.length K → edg (textN img np) 34 n s K = l ∧ K = l.length + n := by
  have e : np = npages (gbits n s l).length := by have := h.size.2.1; omega
  subst e
  obtain ⟨h1, h2, rfl⟩ := h
  exact dec h2 h1 (text_at _)
theorem Is.one {img : ByteArray} {n s n' s' : Nat} {l l' : List E3} (h : Is img n s l) (h' : Is img n' s' l') : n = n' ∧ s = s' ∧ l = l' := by
  obtain ⟨a1, a2, a3, a4⟩ := h.read h.size.2.1
  obtain ⟨b1, b2, b3, b4⟩ := h'.read h.size.2.1
  have en : n = n' := by rw [← a1, ← b1]
  have es : s = s' := by rw [← a2, ← b2]
  refine ⟨en, es, ?_⟩
  subst en es
  have el : l.length = l'.length := by rw [← a3, ← b3]
  have hK := (stop_srcs (t := textN img (npages (gbits n s l).length)) (a := 34) (n := n) l (Gm.strict_rising h.2.1) (fun e he => ⟨(h.1.2 e he).1, (h.1.2 e he).2.1⟩) (by have := h.1.1.1; omega) (by
    have ht := text_at (gbits n s l)
    rw [← h.2.2] at ht
    generalize textN img (npages (gbits n s l).length) = t at ht
    unfold gbits at ht
    have := ht.left.left.right
    simpa only [List.length_append, digs_len, Nat.zero_add] using this)).1
  rw [← (a4 _ hK).1, ← (b4 _ (by rw [← el]; exact hK)).1]
/-- what a graph is built as is its image, of its edges in order -/
theorem built_is {n s : Nat} {l : List E3} (h : okG n s l) : Is (built n s l) n s (Gm.ordE l) := by
  refine ⟨⟨⟨h.1.1, h.1.2.1, h.1.2.2.1, h.1.2.2.2.1, Nat.le_trans (Gm.ordE_len l) h.1.2.2.2.2⟩, fun e he => h.2 e ((Gm.ordE_mem l e).1 he)⟩, Gm.ordE_strict l, rfl⟩
theorem imgOf_is {n s : Nat} {l : List E3} (h : okG n s l) : Is (imgOf n s l) n s (Gm.ordE l) := by
  have := built_is h
  unfold imgOf
  rw [if_pos h, Int.toNat_natCast, Int.toNat_natCast]
  exact this
/-- what is read and built anew as the same bytes is the image of what was read -/
theorem again_is {img : ByteArray} {np : Nat} (hnp : img.size = 256 * np) {K : Nat} (hK : Stop (textN img np) 34 (numOf (sub (textN img np) 0 14)) (numOf (sub (textN img np) 19 15)) K)
    (hok : okG (numOf (sub (textN img np) 0 14)) (numOf (sub (textN img np) 14 5)) (edg (textN img np) 34 (numOf (sub (textN img np) 0 14)) (numOf (sub (textN img np) 14 5)) K))
    (he : imgOf (numOf (sub (textN img np) 0 14)) (numOf (sub (textN img np) 14 5)) (edg (textN img np) 34 (numOf (sub (textN img np) 0 14)) (numOf (sub (textN img np) 14 5)) K) = img) :
    Is img (numOf (sub (textN img np) 0 14)) (numOf (sub (textN img np) 14 5)) (edg (textN img np) 34 (numOf (sub (textN img np) 0 14)) (numOf (sub (textN img np) 14 5)) K) := by
  have h := imgOf_is hok
  rw [he] at h
  obtain ⟨_, _, h3, h4⟩ := h.read hnp
  rw [← h3] at h4
  rw [← (h4 K hK).1] at h
  exact h
end Go.Proofs.YtphjbbbnbmafnabGreatDoor.G

namespace Go.Proofs.YtphjbbbnbmafnabGreatDoor.G
open Go.RowKit

/-- two places change what they hold -/
def swp (l : List E3) (i j : Nat) : List E3 := match l[i]?, l[j]? with
  | some p, some q => (l.set i q).set j p
  | _, _ => l
theorem swp_len (l : List E3) (i j : Nat) : (swp l i j).length = l.length := by
  unfold swp; split <;> simp
theorem swp_lists (X Y Z : List E3) (p q : E3) : swp (X ++ p :: Y ++ q :: Z) X.length (X.length + 1 + Y.length) = X ++ q :: Y ++ p :: Z := by
  have h1 : (X ++ p :: Y ++ q :: Z)[X.length]? = some p := by simp
  have h2 : (X ++ p :: Y ++ q :: Z)[X.length + 1 + Y.length]? = some q := by
    rw [List.getElem?_append_right (by simp; omega)]
    rw [show X.length + 1 + Y.length - (X ++ p :: Y).length = 0 by simp; omega]; rfl
  unfold swp
  rw [h1, h2]
  simp only
  have e1 : (X ++ p :: Y ++ q :: Z).set X.length q = X ++ q :: Y ++ q :: Z := by simp
  rw [e1, List.set_append_right _ _ (by simp; omega)]
  rw [show X.length + 1 + Y.length - (X ++ q :: Y).length = 0 by simp; omega]
  simp
theorem RowE.swp {W : World} {g cap : Nat} {L : List E3} (h : RowE W g cap L) {i j : Nat} {p q : E3} (hi : L[i]? = some p) (hj : L[j]? = some q) :
    RowE ((((((W.setCell ⟨g, i * 3, none⟩ (.int .i64 q.1)).setCell ⟨g, i * 3 + 1, none⟩ (.int .i64 q.2.1)).setCell ⟨g, i * 3 + 2, none⟩ (.int .i64 q.2.2)).setCell ⟨g, j * 3, none⟩ (.int .i64 p.1)).setCell ⟨g, j * 3 + 1, none⟩ (.int .i64 p.2.1)).setCell ⟨g, j * 3 + 2, none⟩ (.int .i64 p.2.2)) g cap (swp L i j) := by
  have h1 := h.put q (len_of hi)
  have h2 := h1.put (k := j) p (by rw [List.length_set]; exact len_of hj)
  have e : G.swp L i j = (L.set i q).set j p := by unfold G.swp; rw [hi, hj]
  rw [e]
  exact h2
theorem gb_dn1 {w w' : World} {r : Option Nat} (h : w.grownBy w' r) : w.grownBy w'.drew r := ⟨h.os, h.tape, h.output, h.size, h.block⟩
theorem gb_six (W : World) (g a b c d e f : Nat) (u v x y z t : Value) : W.grownBy ((((((W.setCell ⟨g, a, none⟩ u).setCell ⟨g, b, none⟩ v).setCell ⟨g, c, none⟩ x).setCell ⟨g, d, none⟩ y).setCell ⟨g, e, none⟩ z).setCell ⟨g, f, none⟩ t) (some g) :=
  ((((((gb_set W g a u).trans (gb_set _ g b v)).trans (gb_set _ g c x)).trans (gb_set _ g d y)).trans (gb_set _ g e z)).trans (gb_set _ g f t))
set_option maxHeartbeats 8000000 in
set_option maxRecDepth 100000 in
theorem swap_any (X P Y Q Z : List E3) (a b n N g cap : Nat) (cv : Value) (w : World) (h : RowE w g cap (X ++ P ++ Y ++ Q ++ Z)) (ha : X.length = a) (hn : P.length = n) (hq : Q.length = n) (hb : a + n + Y.length = b) (hN : b + n + Z.length = N) (hl : N ≤ 1000000) :
    Calls Tryz.prog 155 #[.slice (some ⟨g, 0, none⟩) N cap, .int .i64 (a : Int), .int .i64 (b : Int), .int .i64 (n : Int), cv] w fun e w' => e = .returned (.tuple #[]) ∧ RowE w' g cap (X ++ Q ++ Y ++ P ++ Z) ∧ w.grownBy w' (some g) := by
  have HR0 : Hid (RowE w g cap (X ++ (Q.take 0 ++ P.drop 0) ++ Y ++ (P.take 0 ++ Q.drop 0) ++ Z)) := (by simpa using h : RowE w g cap (X ++ (Q.take 0 ++ P.drop 0) ++ Y ++ (P.take 0 ++ Q.drop 0) ++ Z))
  clear h
  have hab : a + n ≤ b := by omega
  have hbN : b + n ≤ N := by omega
  have HL : Hid _ := And.intro ha (And.intro hn (And.intro hq (And.intro hb hN)))
  clear ha hn hq hb hN
  go_enter Tryz.func155, Tryz.ntmps155
  go_wp2
  go_loopw [10] (fun si wr => ∃ i : Nat, i ≤ n ∧ si = .int .i64 (i : Int) ∧ Hid (RowE wr g cap (X ++ (Q.take i ++ P.drop i) ++ Y ++ (P.take i ++ Q.drop i) ++ Z) ∧ w.grownBy wr (some g))) (fun si _ => n - (intOf si).toNat)
  case atStart => exact ⟨0, Nat.zero_le _, rfl, HR0.out, ⟨rfl, rfl, rfl, Nat.le_refl _, fun _ _ _ => rfl⟩⟩
  case round =>
    obtain ⟨i, hi, rfl, HI⟩ := hrel
    by_cases hlt : i < n
    · obtain ⟨p, hp⟩ : ∃ p, P[i]? = some p := ⟨_, List.getElem?_eq_getElem (by have := HL.out; omega)⟩
      obtain ⟨q, hq⟩ : ∃ q, Q[i]? = some q := ⟨_, List.getElem?_eq_getElem (by have := HL.out; omega)⟩
      have HS : Hid (∃ A B C, X ++ (Q.take i ++ P.drop i) ++ Y ++ (P.take i ++ Q.drop i) ++ Z = A ++ p :: B ++ q :: C ∧ A.length = a + i ∧ A.length + 1 + B.length = b + i ∧ X ++ (Q.take (i + 1) ++ P.drop (i + 1)) ++ Y ++ (P.take (i + 1) ++ Q.drop (i + 1)) ++ Z = A ++ q :: B ++ p :: C) := (by
        obtain ⟨h1, h2, h3, h4, h5⟩ := HL.out
        have e1 : P.drop i = p :: P.drop (i + 1) := by rw [List.drop_eq_getElem_cons (by omega)]; congr 1; rw [List.getElem?_eq_getElem (by omega)] at hp; exact Option.some.inj hp
        have e2 : Q.drop i = q :: Q.drop (i + 1) := by rw [List.drop_eq_getElem_cons (by omega)]; congr 1; rw [List.getElem?_eq_getElem (by omega)] at hq; exact Option.some.inj hq
        have e3 : P.take (i + 1) = P.take i ++ [p] := by rw [List.take_add_one, hp]; rfl
        have e4 : Q.take (i + 1) = Q.take i ++ [q] := by rw [List.take_add_one, hq]; rfl
        refine ⟨X ++ Q.take i, P.drop (i + 1) ++ Y ++ P.take i, Q.drop (i + 1) ++ Z, ?_, ?_, ?_, ?_⟩
        · rw [e1, e2]; simp
        · rw [List.length_append, List.length_take]; omega
        · simp only [List.length_append, List.length_take, List.length_drop]; omega
        · rw [e3, e4]; simp : ∃ A B C, _)
      clear hp hq
      obtain ⟨A, B, C, hS1, hS2, hS3, hS4⟩ := HS.out
      have hR := HI.out.1
      rw [hS1] at hR
      have hG := HI.out.2
      have hsw : G.swp (A ++ p :: B ++ q :: C) (a + i) (b + i) = X ++ (Q.take (i + 1) ++ P.drop (i + 1)) ++ Y ++ (P.take (i + 1) ++ Q.drop (i + 1)) ++ Z := by rw [hS4, ← hS3, ← hS2]; exact swp_lists A B C p q
      have hpa : (A ++ p :: B ++ q :: C)[a + i]? = some p := by rw [← hS2]; simp
      have hqb : (A ++ p :: B ++ q :: C)[b + i]? = some q := by
        rw [← hS3, List.getElem?_append_right (by simp; omega), show A.length + 1 + B.length - (A ++ p :: B).length = 0 by simp; omega]; rfl
      have hR2 := hR.swp hpa hqb
      rw [hsw] at hR2
      obtain ⟨c0, c1, c2⟩ := hR.cells hpa
      obtain ⟨d0, d1, d2⟩ := hR.cells hqb
      have f0 := hR.frozen ((a + i) * 3)
      have f1 := hR.frozen ((a + i) * 3 + 1)
      have f2 := hR.frozen ((a + i) * 3 + 2)
      have g0 := hR.frozen ((b + i) * 3)
      have g1 := hR.frozen ((b + i) * 3 + 1)
      have g2 := hR.frozen ((b + i) * 3 + 2)
      have HI2 : Hid (RowE _ g cap (X ++ (Q.take (i + 1) ++ P.drop (i + 1)) ++ Y ++ (P.take (i + 1) ++ Q.drop (i + 1)) ++ Z)) := hR2
      have HG : Hid _ := hG
      obtain ⟨p1, p2, p3⟩ := p
      obtain ⟨q1, q2, q3⟩ := q
      clear HS hS1 hS2 hS3 hS4 hR hG hsw hpa hqb hR2 HI
      dsimp only at c0 c1 c2 d0 d1 d2
      have hne : b + i ≠ a + i := by omega
      go_wp2_with fail
      go_region
      have HG2 : Hid (w.grownBy _ (some g)) := HG.out.trans (gb_six wr g ((a + i) * 3) ((a + i) * 3 + 1) ((a + i) * 3 + 2) ((b + i) * 3) ((b + i) * 3 + 1) ((b + i) * 3 + 2) (.int .i64 q1) (.int .i64 q2) (.int .i64 q3) (.int .i64 p1) (.int .i64 p2) (.int .i64 p3))
      clear c0 c1 c2 d0 d1 d2 f0 f1 f2 g0 g1 g2
      revert HG2 HI2
      generalize (((((wr.setCell _ _).setCell _ _).setCell _ _).setCell _ _).setCell _ _).setCell _ _ = W2
      intro HI2 HG2
      go_wp2
      go_roundw
      case rel => exact ⟨i + 1, by omega, by go_num, HI2.out, gb_dn1 HG2.out⟩
      case measure => simp [intOf]; omega
    · obtain rfl : i = n := by omega
      have HE : Hid (RowE wr g cap (X ++ Q ++ Y ++ P ++ Z) ∧ w.grownBy wr (some g)) := (by
        have h := HI.out
        obtain ⟨h1, h2, h3, h4, h5⟩ := HL.out
        rw [List.take_of_length_le (by omega : Q.length ≤ i), List.drop_eq_nil_of_le (by omega : P.length ≤ i), List.take_of_length_le (by omega : P.length ≤ i), List.drop_eq_nil_of_le (by omega : Q.length ≤ i), List.append_nil, List.append_nil] at h
        exact h : _ ∧ _)
      go_wp2
      go_end0
      exact ⟨rfl, HE.out⟩
set_option maxHeartbeats 8000000 in
set_option maxRecDepth 100000 in
theorem rot_any (X U V Z : List E3) (a m b N g cap : Nat) (cv : Value) (w : World) (h : RowE w g cap (X ++ U ++ V ++ Z)) (ha : X.length = a) (hu : a + U.length = m) (hv : m + V.length = b) (hN : b + Z.length = N) (hu0 : U ≠ []) (hv0 : V ≠ []) (hl : N ≤ 1000000) :
    Calls Tryz.prog 147 #[.slice (some ⟨g, 0, none⟩) N cap, .int .i64 (a : Int), .int .i64 (m : Int), .int .i64 (b : Int), cv] w fun e w' => e = .returned (.tuple #[]) ∧ RowE w' g cap (X ++ V ++ U ++ Z) ∧ w.grownBy w' (some g) := by
  have hu1 := List.length_pos_iff.2 hu0
  have hv1 := List.length_pos_iff.2 hv0
  obtain ⟨T, hT⟩ : ∃ T, T = X ++ V ++ U ++ Z := ⟨_, rfl⟩
  rw [← hT]
  have H0 : Hid (∃ X' U' V' Z' : List E3, RowE w g cap (X' ++ U' ++ V' ++ Z') ∧ X'.length + (m - a) = m ∧ U'.length = m - a ∧ V'.length = b - m ∧ m + (b - m) + Z'.length = N ∧ X' ++ V' ++ U' ++ Z' = T) := (⟨X, U, V, Z, h, by omega, by omega, by omega, by omega, hT.symm⟩ : ∃ X' U' V' Z' : List E3, _)
  have hmb : m < b := by omega
  have ham : a < m := by omega
  have hbN : b ≤ N := by omega
  clear h ha hu hv hN hu0 hv0 hu1 hv1 hT
  clear X U V Z
  have e1 : (m : Int) - (a : Int) = ((m - a : Nat) : Int) := by omega
  have e2 : (b : Int) - (m : Int) = ((b - m : Nat) : Int) := by omega
  go_enter Tryz.func147, Tryz.ntmps147
  go_wp2
  go_loopw [10, 11] (fun si sj wr => ∃ i j : Nat, si = .int .i64 (i : Int) ∧ sj = .int .i64 (j : Int) ∧ 0 < i ∧ 0 < j ∧ i ≤ m ∧ m + j ≤ N ∧ Hid ((∃ X U V Z : List E3, RowE wr g cap (X ++ U ++ V ++ Z) ∧ X.length + i = m ∧ U.length = i ∧ V.length = j ∧ m + j + Z.length = N ∧ X ++ V ++ U ++ Z = T) ∧ w.grownBy wr (some g))) (fun si sj _ => (intOf si).toNat + (intOf sj).toNat)
  case atStart => exact ⟨m - a, b - m, rfl, rfl, by omega, by omega, by omega, by omega, H0.out, ⟨rfl, rfl, rfl, Nat.le_refl _, fun _ _ _ => rfl⟩⟩
  case round =>
    obtain ⟨i, j, rfl, rfl, hi0, hj0, him, hjN, HI⟩ := hrel
    clear e1 e2
    have e1 : (m : Int) - (i : Int) = ((m - i : Nat) : Int) := by omega
    by_cases hij : i = j
    · have hijb : ((i : Int) != (j : Int)) = false := by rw [hij]; simp
      obtain ⟨X, U, V, Z, hR, h1, h2, h3, h4, h5⟩ := HI.out.1
      have HC : Hid (Calls Tryz.prog 155 _ wr _) := swap_any X U [] V Z (m - i) m i N g cap cv wr (by simpa using hR) (by omega) h2 (by omega) (by simp; omega) (by omega) hl
      have HT : Hid (X ++ V ++ [] ++ U ++ Z = T) := (by rw [List.append_nil]; exact h5 : _ = _)
      have HG : Hid _ := HI.out.2
      clear hR h1 h2 h3 h4 h5 HI hij
      go_wp2_with fail
      refine (Calls.mono HC.out ?_)
      rintro e w2 ⟨rfl, hr2, hg2⟩
      rw [HT.out] at hr2
      have HE : Hid _ := And.intro hr2 (HG.out.trans hg2)
      clear hr2 hg2
      go_wp2
      go_end0
      exact ⟨rfl, HE.out⟩
    · have hijb : ((i : Int) != (j : Int)) = true := by simpa using (by omega : ¬ (i : Int) = (j : Int))
      by_cases hgt : i > j
      · obtain ⟨X, U, V, Z, hR, h1, h2, h3, h4, h5⟩ := HI.out.1
        have hsp := List.take_append_drop j U
        have HC : Hid (Calls Tryz.prog 155 _ wr _) := swap_any X (U.take j) (U.drop j) V Z (m - i) m j N g cap cv wr (by
          have h := hR
          rw [← hsp] at h
          simpa using h) (by omega) (by rw [List.length_take]; omega) h3 (by rw [List.length_drop]; omega) (by omega) hl
        have HN : Hid (∀ W : World, RowE W g cap (X ++ V ++ U.drop j ++ U.take j ++ Z) → ∃ X' U' V' Z' : List E3, RowE W g cap (X' ++ U' ++ V' ++ Z') ∧ X'.length + (i - j) = m ∧ U'.length = i - j ∧ V'.length = j ∧ m + j + Z'.length = N ∧ X' ++ V' ++ U' ++ Z' = T) := (fun W h => ⟨X ++ V, U.drop j, U.take j, Z, h, by rw [List.length_append]; omega, by rw [List.length_drop]; omega, by rw [List.length_take]; omega, h4, by rw [← h5]; simp [hsp]⟩ : ∀ W : World, _)
        have HG : Hid _ := HI.out.2
        clear hR h1 h2 h3 h4 h5 HI hsp
        go_wp2_with fail
        refine (Calls.mono HC.out ?_)
        rintro e w2 ⟨rfl, hr2, hg2⟩
        have HE : Hid _ := And.intro (HN.out _ hr2) (HG.out.trans hg2)
        clear hr2 hg2
        go_wp2
        go_roundw
        case rel => exact ⟨i - j, j, by go_num, rfl, by omega, hj0, by omega, hjN, HE.out⟩
        case measure => simp [intOf]; omega
      · obtain ⟨X, U, V, Z, hR, h1, h2, h3, h4, h5⟩ := HI.out.1
        have hsp := List.take_append_drop (j - i) V
        have e3 : (m : Int) + (j : Int) - (i : Int) = ((m + j - i : Nat) : Int) := by omega
        have HC : Hid (Calls Tryz.prog 155 _ wr _) := swap_any X U (V.take (j - i)) (V.drop (j - i)) Z (m - i) (m + j - i) i N g cap cv wr (by
          have h := hR
          rw [← hsp] at h
          simpa using h) (by omega) h2 (by rw [List.length_drop]; omega) (by rw [List.length_take]; omega) (by omega) hl
        have HN : Hid (∀ W : World, RowE W g cap (X ++ V.drop (j - i) ++ V.take (j - i) ++ U ++ Z) → ∃ X' U' V' Z' : List E3, RowE W g cap (X' ++ U' ++ V' ++ Z') ∧ X'.length + i = m ∧ U'.length = i ∧ V'.length = j - i ∧ m + (j - i) + Z'.length = N ∧ X' ++ V' ++ U' ++ Z' = T) := (fun W h => ⟨X, V.drop (j - i), V.take (j - i), U ++ Z, by simpa using h, h1, by rw [List.length_drop]; omega, by rw [List.length_take]; omega, by rw [List.length_append]; omega, by rw [← h5]; conv => { rhs; rw [← hsp] }; simp⟩ : ∀ W : World, _)
        have HG : Hid _ := HI.out.2
        clear hR h1 h2 h3 h4 h5 HI hsp
        go_wp2_with fail
        refine (Calls.mono HC.out ?_)
        rintro e w2 ⟨rfl, hr2, hg2⟩
        have HE : Hid _ := And.intro (HN.out _ hr2) (HG.out.trans hg2)
        clear hr2 hg2
        go_wp2
        go_roundw
        case rel => exact ⟨i, j - i, rfl, by go_num, hi0, by omega, him, by omega, HE.out⟩
        case measure => simp [intOf]; omega
end Go.Proofs.YtphjbbbnbmafnabGreatDoor.G
