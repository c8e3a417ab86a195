/-
  A graph and its pages are read as they were written: without the program. What is read of an image and built anew as the same bytes is the image of what was read; an image is that of one graph alone. No condition.
-/
import Derived.Test.YtphjbbbnbmafnabGreatDoorPEdg
import Derived.Test.YtphjbbbnbmafnabGreatDoorPBuild
namespace Go.Proofs.YtphjbbbnbmafnabGreatDoor.G
open Go.RowKit

/-! ### bits at a place of a text -/
/-- from the place a on the text t reads as m -/
def At (t : List Bool) (a : Nat) (m : List Bool) : Prop := ∀ i, i < m.length → t.getD (a + i) false = m.getD i false
theorem At.left {t : List Bool} {a : Nat} {l m : List Bool} (h : At t a (l ++ m)) : At t a l := fun i hi => by
  have := h i (by rw [List.length_append]; omega)
  rw [this, List.getD_eq_getElem?_getD, List.getD_eq_getElem?_getD, List.getElem?_append_left hi]
theorem At.right {t : List Bool} {a : Nat} {l m : List Bool} (h : At t a (l ++ m)) : At t (a + l.length) m := fun i hi => by
  have := h (l.length + i) (by rw [List.length_append]; omega)
  rw [Nat.add_assoc, this, List.getD_eq_getElem?_getD, List.getD_eq_getElem?_getD, List.getElem?_append_right (by omega), Nat.add_sub_cancel_left]
theorem At.sub {t : List Bool} {a : Nat} {m : List Bool} (h : At t a m) : sub t a m.length = m := by
  apply List.ext_getElem?
  intro i
  unfold G.sub
  by_cases hi : i < m.length
  · rw [List.getElem?_map, List.getElem?_range hi, List.getElem?_eq_getElem hi]
    have := h i hi
    rw [List.getD_eq_getElem?_getD (l := m), List.getElem?_eq_getElem hi] at this
    simp only [Option.map_some, this]; rfl
  · rw [List.getElem?_eq_none (by simp; omega), List.getElem?_eq_none (by omega)]
theorem numOf_digs : ∀ (k n : Nat), numOf (digs k n) = n % 2 ^ k
  | 0, n => by simp [digs, numOf, Nat.mod_one]
  | k + 1, n => by
    have h : ∀ (l : List Bool) (c : Nat), l.foldl (fun n b => 2 * n + b.toNat) c = c * 2 ^ l.length + numOf l := by
      intro l
      induction l with
      | nil => intro c; simp [numOf]
      | cons b l ih =>
        intro c
        unfold numOf at *
        rw [List.foldl_cons, ih, List.foldl_cons, ih (2 * 0 + b.toNat), List.length_cons, Nat.pow_succ, Nat.add_mul]
        simp
        rw [← Nat.add_assoc, Nat.mul_comm 2 c, Nat.mul_assoc, Nat.mul_comm 2]
    unfold digs
    unfold numOf
    rw [List.foldl_cons, h, digs_len, numOf_digs k n, Nat.mod_pow_succ, Nat.testBit, Nat.shiftRight_eq_div_pow]
    have : (1 &&& n / 2 ^ k != 0).toNat = n / 2 ^ k % 2 := by
      rw [Nat.and_comm, Nat.and_one_is_mod]
      rcases Nat.mod_two_eq_zero_or_one (n / 2 ^ k) with e | e <;> rw [e] <;> rfl
    rw [Nat.mul_zero, Nat.zero_add, this, Nat.mul_comm, Nat.add_comm]
theorem digs_numOf (l : List Bool) : digs l.length (numOf l) = l := by
  have hl : ∀ (k n : Nat) (b : Bool), digs (k + 1) (2 * n + b.toNat) = digs k n ++ [b] := by
    intro k
    induction k with
    | zero => intro n b; cases b <;> simp [digs] <;> omega
    | succ k ih =>
      intro n b
      unfold digs
      rw [ih, Nat.testBit_succ, show (2 * n + b.toNat) / 2 = n by cases b <;> simp <;> omega, List.cons_append]
  have hr : ∀ m : List Bool, digs m.reverse.length (numOf m.reverse) = m.reverse := by
    intro m
    induction m with
    | nil => rfl
    | cons b m ih => rw [List.reverse_cons, numOf_snoc, List.length_append, List.length_singleton, hl, ih]
  have := hr l.reverse
  rwa [List.reverse_reverse] at this
theorem At.num {t : List Bool} {a k n : Nat} (h : At t a (digs k n)) (hn : n < 2 ^ k) : numOf (G.sub t a k) = n := by
  have := h.sub
  rw [digs_len] at this
  rw [this, numOf_digs, Nat.mod_eq_of_lt hn]
theorem At.nums {t : List Bool} {k : Nat} : ∀ (l : List Nat) {a : Nat}, At t a (G.nums k l) → (∀ x ∈ l, x < 2 ^ k) → ∀ (i x : Nat), l[i]? = some x → numOf (G.sub t (a + i * k) k) = x
  | [], _, _, _, _, _, hx => by simp at hx
  | y :: l, a, h, hl, i, x, hx => by
    have h' : At t a (digs k y ++ G.nums k l) := by
      have e : G.nums k (y :: l) = digs k y ++ G.nums k l := by unfold G.nums; rw [List.flatMap_cons]
      rw [← e]; exact h
    cases i with
    | zero =>
      simp at hx; subst hx
      rw [Nat.zero_mul, Nat.add_zero]
      exact h'.left.num (hl y (by simp))
    | succ i =>
      have h2 := h'.right
      rw [digs_len] at h2
      have := At.nums l h2 (fun x hx => hl x (by simp [hx])) i x (by simpa using hx)
      rw [← this, Nat.add_mul, Nat.one_mul]
      congr 2; omega
theorem wid_lt (n : Nat) : n < 2 ^ wid n := by
  unfold wid
  split
  · rename_i h; subst h; decide
  · exact Nat.lt_log2_self
theorem lt_wid {x s : Nat} (h : x < s) : x < 2 ^ wid (s - 1) := by
  have := wid_lt (s - 1)
  omega

/-! ### where edges are from -/
def frs (l : List E3) : List Nat := l.map fun e => e.1.toNat
theorem at_ones {t : List Bool} {a j : Nat} (h : At t a (List.replicate j true ++ [false])) : (∀ i < j, t.getD (a + i) false = true) ∧ t.getD (a + j) false = false := by
  constructor
  · intro i hi
    rw [h i (by simp; omega), List.getD_eq_getElem?_getD, List.getElem?_append_left (by simpa using hi), List.getElem?_replicate, if_pos hi]; rfl
  · rw [h j (by simp), List.getD_eq_getElem?_getD, List.getElem?_append_right (by simp)]
    simp
/-- behind the bits of the first u nodes, and j ones more -/
theorem rdf_ones {t : List Bool} {a : Nat} (k : Nat) (fs : List Nat) (u : Nat) (h : rdf t a k = (fs, u)) : ∀ j, (∀ i < j, t.getD (a + k + i) false = true) → rdf t a (k + j) = (fs ++ List.replicate j u, u)
  | 0, _ => by simpa using h
  | j + 1, ho => by
    have ih := rdf_ones k fs u h j (fun i hi => ho i (by omega))
    show rdf t a ((k + j) + 1) = _
    unfold rdf
    rw [ih, ← Nat.add_assoc, ho j (by omega), if_pos rfl, List.replicate_succ', List.append_assoc]
theorem take_frs (l : List E3) (u : Nat) (hr : Gm.Rising l) (h0 : ∀ e ∈ l, 0 ≤ e.1) : frs (l.take (Gm.ah l (u + 1))) = frs (l.take (Gm.ah l u)) ++ List.replicate (Gm.ah l (u + 1) - Gm.ah l u) u := by
  have hm := Gm.ah_mono l (show u ≤ u + 1 by omega)
  have hle := Gm.ah_le l (u + 1)
  unfold frs
  apply List.ext_getElem?
  intro i
  by_cases hi : i < Gm.ah l u
  · rw [List.getElem?_append_left (by simp; omega), List.getElem?_map, List.getElem?_map, List.getElem?_take_of_lt (by omega), List.getElem?_take_of_lt hi]
  · rw [List.getElem?_append_right (by simp; omega)]
    have hlen : (List.map (fun e : E3 => e.1.toNat) (l.take (Gm.ah l u))).length = Gm.ah l u := by simp; omega
    rw [hlen]
    by_cases hi2 : i < Gm.ah l (u + 1)
    · have hx := List.getElem?_eq_getElem (l := l) (i := i) (by omega)
      rw [List.getElem?_map, List.getElem?_take_of_lt hi2, hx, List.getElem?_replicate, if_pos (by omega)]
      have h1 := (Gm.ah_at l (u + 1) i _ hr hx).2 hi2
      have h2 : ¬ _ := fun h => hi ((Gm.ah_at l u i _ hr hx).1 h)
      have h3 := h0 _ (List.mem_of_getElem? hx)
      simp only [Option.map_some]
      congr 1
      omega
    · rw [List.getElem?_eq_none (by simp; omega), List.getElem?_eq_none (by simp; omega)]
theorem rdf_srcs {t : List Bool} {a : Nat} (l : List E3) (hr : Gm.Rising l) (h0 : ∀ e ∈ l, 0 ≤ e.1) : ∀ (u : Nat), At t a (srcs l u) → rdf t a (Gm.ah l u + u) = (frs (l.take (Gm.ah l u)), u)
  | 0, _ => by rw [Gm.ah_zero l h0]; rfl
  | u + 1, h => by
    have h' : At t a (srcs l u ++ (List.replicate (Gm.ah l (u + 1) - Gm.ah l u) true ++ [false])) := h
    have ih := rdf_srcs l hr h0 u h'.left
    have h2 := h'.right
    rw [srcs_len l (Gm.ah_zero l h0)] at h2
    obtain ⟨h3, h4⟩ := at_ones h2
    have h5 := rdf_ones _ _ _ ih _ h3
    have hm := Gm.ah_mono l (show u ≤ u + 1 by omega)
    have e : Gm.ah l (u + 1) + (u + 1) = (Gm.ah l u + u + (Gm.ah l (u + 1) - Gm.ah l u)) + 1 := by omega
    rw [e]
    unfold rdf
    rw [h5, if_neg (by rw [← Nat.add_assoc, h4]; simp), take_frs l u hr h0]
theorem rdf_mono (t : List Bool) (a : Nat) {j k : Nat} (h : j ≤ k) : (rdf t a j).1.length ≤ (rdf t a k).1.length ∧ (rdf t a j).2 ≤ (rdf t a k).2 := by
  induction k with
  | zero => obtain rfl : j = 0 := by omega
            exact ⟨Nat.le_refl _, Nat.le_refl _⟩
  | succ k ih =>
    by_cases e : j = k + 1
    · subst e; exact ⟨Nat.le_refl _, Nat.le_refl _⟩
    · have := ih (by omega)
      show _ ≤ (if _ then _ else _ : List Nat × Nat).1.length ∧ _ ≤ (if _ then _ else _ : List Nat × Nat).2
      split <;> simp <;> omega
theorem stop_one {t : List Bool} {a n E K J : Nat} (h1 : Stop t a n E K) (h2 : Stop t a n E J) : K = J := by
  rcases Nat.lt_trichotomy K J with h | h | h
  · exact absurd (h2.1 K h) h1.2
  · exact h
  · exact absurd (h1.1 J h) h2.2
theorem stop_srcs {t : List Bool} {a n : Nat} (l : List E3) (hr : Gm.Rising l) (h0 : ∀ e ∈ l, 0 ≤ e.1 ∧ e.1 < (n : Int)) (hn : 1 ≤ n) (h : At t a (srcs l n)) : Stop t a n l.length (l.length + n) ∧ (rdf t a (l.length + n)).1 = frs l := by
  have hz := fun e he => (h0 e he).1
  have hall := Gm.ah_all l n (fun e he => (h0 e he).2)
  have e1 := rdf_srcs l hr hz n h
  rw [hall, List.take_length] at e1
  refine ⟨⟨fun k hk => ?_, by rw [e1]; simp⟩, by rw [e1]⟩
  have hm := rdf_mono t a (show k ≤ l.length + n by omega)
  rw [e1] at hm
  have hs := rdf_sum t a k
  have hlen : (frs l).length = l.length := by simp [frs]
  refine ⟨?_, by have := hm.1; simp only at this; omega⟩
  obtain ⟨m, rfl⟩ : ∃ m, n = m + 1 := ⟨n - 1, by omega⟩
  have h' : At t a (srcs l m ++ (List.replicate (Gm.ah l (m + 1) - Gm.ah l m) true ++ [false])) := h
  have ih := rdf_srcs l hr hz m h'.left
  have h2 := h'.right
  rw [srcs_len l (Gm.ah_zero l hz)] at h2
  have h5 := rdf_ones _ _ _ ih _ (at_ones h2).1
  have hmm := Gm.ah_mono l (show m ≤ m + 1 by omega)
  have h6 := rdf_mono t a (show k ≤ Gm.ah l m + m + (Gm.ah l (m + 1) - Gm.ah l m) by rw [hall]; omega)
  rw [h5] at h6
  have := h6.2
  simp only at this
  omega

/-! ### a graph is read as it was written -/
theorem dec {t : List Bool} {n s : Nat} {l : List E3} (hs : Gm.Strict l) (hok : okG n s l) (h : At t 0 (gbits n s l)) :
    numOf (sub t 0 14) = n ∧ numOf (sub t 14 5) = s ∧ numOf (sub t 19 15) = l.length ∧ ∀ K, Stop t 34 n l.length K → edg t 34 n s K = l ∧ K = l.length + n := by
  obtain ⟨⟨g1, g2, g3, g4, g5⟩, he⟩ := hok
  unfold gbits at h
  have h6 := h.right
  have h5 := h.left.right
  have h4 := h.left.left.right
  have h3 := h.left.left.left.right
  have h2 := h.left.left.left.left.right
  have h1 := h.left.left.left.left.left
  simp only [List.length_append, digs_len, srcs_len l (Gm.ah_zero l (fun e h => (he e h).1)), Gm.ah_all l n (fun e h => (he e h).2.1), nums_len, labs, List.length_map] at h6 h5 h4 h3 h2
  refine ⟨h1.num (by omega), h2.num (by omega), h3.num (by omega), fun K hK => ?_⟩
  have hr := Gm.strict_rising hs
  obtain ⟨hst, hfr⟩ := stop_srcs l hr (fun e h => ⟨(he e h).1, (he e h).2.1⟩) (by omega) h4
  obtain rfl := stop_one hK hst
  refine ⟨?_, rfl⟩
  unfold edg
  rw [hfr]
  apply List.ext_getElem?
  intro i
  have hfl : (frs l).length = l.length := by simp [frs]
  by_cases hi : i < l.length
  · have hx := List.getElem?_eq_getElem (l := l) (i := i) hi
    have hm := List.mem_of_getElem? hx
    rw [lst_at _ _ _ _ _ _ (by omega), hx, hfl, if_pos hi, if_pos hi]
    obtain ⟨k1, k2, k3, k4, k5, k6⟩ := he _ hm
    have e1 := At.nums (k := wid (s - 1)) _ h5 (fun x hx => by
      obtain ⟨e, hem, rfl⟩ := List.mem_map.1 hx
      have := he e hem
      exact lt_wid (by omega)) i l[i].2.1.toNat (by rw [List.getElem?_map, hx]; rfl)
    have e2 := At.nums (k := wid (n - 1)) _ h6 (fun x hx => by
      obtain ⟨e, hem, rfl⟩ := List.mem_map.1 hx
      have := he e hem
      exact lt_wid (by omega)) i l[i].2.2.toNat (by unfold tos; rw [List.getElem?_map, hx]; rfl)
    rw [show (frs l).getD i 0 = l[i].1.toNat by rw [frs, List.getD_eq_getElem?_getD, List.getElem?_map, hx]; rfl]
    rw [show 34 + (l.length + n) + i * wid (s - 1) = 0 + (14 + 5 + 15 + (l.length + n)) + i * wid (s - 1) by omega, e1]
    rw [show 34 + (l.length + n) + l.length * wid (s - 1) + i * wid (n - 1) = 0 + (14 + 5 + 15 + (l.length + n) + wid (s - 1) * l.length) + i * wid (n - 1) by rw [Nat.mul_comm l.length]; omega, e2]
    congr 1
    rw [Int.toNat_of_nonneg k1, Int.toNat_of_nonneg k3, Int.toNat_of_nonneg k5]
  · rw [List.getElem?_eq_none (by rw [lst_len]; omega), List.getElem?_eq_none (by omega)]

/-! ### pages are read as they were written -/
theorem str_get (l : List Nat) (hl : ∀ x ∈ l, x < 256) (i : Nat) : ((str l).data.toList.getD i 0).toNat = l.getD i 0 := by
  unfold str
  simp only [List.getD_eq_getElem?_getD, List.getElem?_map]
  cases h : l[i]? with
  | none => rfl
  | some x =>
    have := hl x (List.mem_of_getElem? h)
    simp; omega
theorem byt_str (l : List Nat) (hl : ∀ x ∈ l, x < 256) (a n : Nat) : byt (str l) a n = (List.range n).map fun i => l.getD (a + i) 0 := by
  unfold byt
  exact List.map_congr_left (fun i _ => str_get l hl _)
theorem range_getD (m : List Nat) : ((List.range m.length).map fun i => m.getD i 0) = m := by
  apply List.ext_getElem?
  intro i
  by_cases hi : i < m.length
  · rw [List.getElem?_map, List.getElem?_range hi, Option.map_some, List.getD_eq_getElem?_getD, List.getElem?_eq_getElem hi]; rfl
  · rw [List.getElem?_eq_none (by simp; omega), List.getElem?_eq_none (by omega)]
theorem whole_len (l : List Bool) (p : Nat) : (whole l p).length = 256 := by unfold whole; rw [List.length_append, pageB_len]; rfl
theorem pagesB_at (l : List Bool) (n p : Nat) (hp : p < n) : ((List.range 256).map fun i => (pagesB l n).getD (256 * p + i) 0) = whole l p := by
  induction n with
  | zero => omega
  | succ n ih =>
    rw [pagesB_succ]
    by_cases e : p = n
    · subst e
      refine Eq.trans (List.map_congr_left (fun i hi => ?_)) ((congrArg (fun k => (List.range k).map fun i => (whole l p).getD i 0) (whole_len l p)).symm.trans (range_getD (whole l p)))
      rw [List.getD_eq_getElem?_getD, List.getElem?_append_right (by rw [pagesB_len]; omega), pagesB_len, Nat.add_sub_cancel_left, ← List.getD_eq_getElem?_getD]
    · rw [← ih (by omega)]
      refine List.map_congr_left (fun i hi => ?_)
      have : i < 256 := by simpa using hi
      rw [List.getD_eq_getElem?_getD, List.getElem?_append_left (by rw [pagesB_len]; omega), ← List.getD_eq_getElem?_getD]
theorem map_range_take {α : Type} (f : Nat → α) (a b : Nat) : (List.range (a + b)).map f = (List.range a).map f ++ (List.range b).map fun i => f (a + i) := by
  rw [List.range_add, List.map_append, List.map_map]; rfl
theorem image_page (l : List Bool) (p : Nat) (hp : p < npages l.length) : byt (image l) (256 * p) 252 = pageB l p 252 ∧ pageOk (image l) p := by
  have hb := fun x h => pagesB_lt l (npages l.length) x h
  have h1 : byt (image l) (256 * p) 252 ++ byt (image l) (256 * p + 252) 4 = whole l p := by
    rw [← byt_append, image, byt_str _ hb, pagesB_at l _ p hp]
  unfold whole at h1
  obtain ⟨h2, h3⟩ := List.append_inj h1 (by rw [byt_len, pageB_len])
  exact ⟨h2, by unfold pageOk; rw [h3, h2]⟩
theorem nums_pageB (l : List Bool) (p : Nat) : ∀ i, nums 8 (pageB l p i) = sub l (2016 * p) (8 * i)
  | 0 => rfl
  | i + 1 => by
    rw [pageB_succ, nums_snoc, nums_pageB l p i]
    have h := digs_numOf (sub l (2016 * p + 8 * i) 8)
    rw [sub_len] at h
    rw [h]
    unfold sub
    rw [show 8 * (i + 1) = 8 * i + 8 by omega, map_range_take (fun i => l.getD (2016 * p + i) false)]
    refine congrArg (fun m => _ ++ m) (List.map_congr_left (fun k _ => ?_))
    rw [Nat.add_assoc]
theorem textN_image (l : List Bool) : ∀ k, k ≤ npages l.length → textN (image l) k = sub l 0 (2016 * k)
  | 0, _ => rfl
  | k + 1, hk => by
    show textN (image l) k ++ _ = _
    rw [textN_image l k (by omega), (image_page l k (by omega)).1, nums_pageB]
    have e : sub l 0 (2016 * k + 8 * 252) = sub l 0 (2016 * k) ++ sub l (2016 * k) (8 * 252) := by
      unfold sub
      rw [map_range_take (fun i => l.getD (0 + i) false)]
      refine congrArg (fun m => _ ++ m) (List.map_congr_left (fun j _ => ?_))
      rw [Nat.zero_add]
    rw [show 2016 * (k + 1) = 2016 * k + 8 * 252 by omega, e]
theorem npages_le (k : Nat) : k ≤ 2016 * npages k := by unfold npages; omega
/-- the text of an image reads as what was written -/
theorem text_at (l : List Bool) : At (textN (image l) (npages l.length)) 0 l := fun i hi => by
  have h := npages_le l.length
  rw [textN_image l _ (Nat.le_refl _), Nat.zero_add]
  unfold sub
  rw [List.getD_eq_getElem?_getD, List.getElem?_map, List.getElem?_range (by omega), Option.map_some, Option.getD_some, Nat.zero_add]

/-! ### what an image is -/
/-- this is the image of this graph -/
def Is (img : ByteArray) (n s : Nat) (l : List E3) : Prop := okG n s l ∧ Gm.Strict l ∧ img = image (gbits n s l)
theorem okG_len {n s : Nat} {l : List E3} (h : okG n s l) : (gbits n s l).length ≤ 2016000 ∧ 34 < (gbits n s l).length := by
  obtain ⟨⟨g1, g2, g3, g4, g5⟩, he⟩ := h
  have h0 := Gm.ah_zero l (fun e h => (he e h).1)
  have hn := Gm.ah_all l n (fun e h => (he e h).2.1)
  refine ⟨gbits_le n s l h0 hn (by omega) (by omega) (by omega), ?_⟩
  rw [gbits_len n s l h0 hn]
  omega
theorem Is.size {img : ByteArray} {n s : Nat} {l : List E3} (h : Is img n s l) : sizeOkI img ∧ img.size = 256 * npages (gbits n s l).length ∧ npages (gbits n s l).length ≤ 1000 ∧ npages (gbits n s l).length ≠ 0 ∧ ∀ p < npages (gbits n s l).length, pageOk img p := by
  obtain ⟨h1, h2, rfl⟩ := h
  obtain ⟨h3, h4⟩ := okG_len h1
  have hs := image_size (gbits n s l)
  have hp : npages (gbits n s l).length ≤ 1000 := by unfold npages; omega
  have hq : npages (gbits n s l).length ≠ 0 := by unfold npages; omega
  exact ⟨⟨by omega, by omega, by omega⟩, hs, hp, hq, fun p hp => (image_page _ p hp).2⟩
theorem Is.read {img : ByteArray} {n s : Nat} {l : List E3} (h : Is img n s l) {np : Nat} (hnp : img.size = 256 * np) :
    numOf (sub (textN img np) 0 14) = n ∧ numOf (sub (textN img np) 14 5) = s ∧ numOf (sub (textN img np) 19 15) = l.length ∧ ∀ K, Stop (textN img np) 34 n l.length K → edg (textN img np) 34 n s K = l ∧ K = l.length + n := by
  have e : np = npages (gbits n s l).length := by have := h.size.2.1; omega
  subst e
  obtain ⟨h1, h2, rfl⟩ := h
  exact dec h2 h1 (text_at _)
theorem Is.one {img : ByteArray} {n s n' s' : Nat} {l l' : List E3} (h : Is img n s l) (h' : Is img n' s' l') : n = n' ∧ s = s' ∧ l = l' := by
  obtain ⟨a1, a2, a3, a4⟩ := h.read h.size.2.1
  obtain ⟨b1, b2, b3, b4⟩ := h'.read h.size.2.1
  have en : n = n' := by rw [← a1, ← b1]
  have es : s = s' := by rw [← a2, ← b2]
  refine ⟨en, es, ?_⟩
  subst en es
  have el : l.length = l'.length := by rw [← a3, ← b3]
  have hK := (stop_srcs (t := textN img (npages (gbits n s l).length)) (a := 34) (n := n) l (Gm.strict_rising h.2.1) (fun e he => ⟨(h.1.2 e he).1, (h.1.2 e he).2.1⟩) (by have := h.1.1.1; omega) (by
    have ht := text_at (gbits n s l)
    rw [← h.2.2] at ht
    generalize textN img (npages (gbits n s l).length) = t at ht
    unfold gbits at ht
    have := ht.left.left.right
    simpa only [List.length_append, digs_len, Nat.zero_add] using this)).1
  rw [← (a4 _ hK).1, ← (b4 _ (by rw [← el]; exact hK)).1]
/-- what a graph is built as is its image, of its edges in order -/
theorem built_is {n s : Nat} {l : List E3} (h : okG n s l) : Is (built n s l) n s (Gm.ordE l) := by
  refine ⟨⟨⟨h.1.1, h.1.2.1, h.1.2.2.1, h.1.2.2.2.1, Nat.le_trans (Gm.ordE_len l) h.1.2.2.2.2⟩, fun e he => h.2 e ((Gm.ordE_mem l e).1 he)⟩, Gm.ordE_strict l, rfl⟩
theorem imgOf_is {n s : Nat} {l : List E3} (h : okG n s l) : Is (imgOf n s l) n s (Gm.ordE l) := by
  have := built_is h
  unfold imgOf
  rw [if_pos h, Int.toNat_natCast, Int.toNat_natCast]
  exact this
/-- what is read and built anew as the same bytes is the image of what was read -/
theorem again_is {img : ByteArray} {np : Nat} (hnp : img.size = 256 * np) {K : Nat} (hK : Stop (textN img np) 34 (numOf (sub (textN img np) 0 14)) (numOf (sub (textN img np) 19 15)) K)
    (hok : okG (numOf (sub (textN img np) 0 14)) (numOf (sub (textN img np) 14 5)) (edg (textN img np) 34 (numOf (sub (textN img np) 0 14)) (numOf (sub (textN img np) 14 5)) K))
    (he : imgOf (numOf (sub (textN img np) 0 14)) (numOf (sub (textN img np) 14 5)) (edg (textN img np) 34 (numOf (sub (textN img np) 0 14)) (numOf (sub (textN img np) 14 5)) K) = img) :
    Is img (numOf (sub (textN img np) 0 14)) (numOf (sub (textN img np) 14 5)) (edg (textN img np) 34 (numOf (sub (textN img np) 0 14)) (numOf (sub (textN img np) 14 5)) K) := by
  have h := imgOf_is hok
  rw [he] at h
  obtain ⟨_, _, h3, h4⟩ := h.read hnp
  rw [← h3] at h4
  rw [← (h4 K hK).1] at h
  exact h
end Go.Proofs.YtphjbbbnbmafnabGreatDoor.G
