/-
  Edges in their order, each once; how a graph is written as bits: without the program. No condition.
-/
namespace Go.Proofs.Ytphjbbbnbmafnaa.Gm

/-- an edge: from, label, to -/
abbrev E3 := Int × Int × Int
/-- an edge is ahead of another -/
def ltE (a b : E3) : Bool := if a.1 = b.1 then (if a.2.1 = b.2.1 then decide (a.2.2 < b.2.2) else decide (a.2.1 < b.2.1)) else decide (a.1 < b.1)
theorem ltE_iff (a b : E3) : ltE a b = true ↔ a.1 < b.1 ∨ (a.1 = b.1 ∧ (a.2.1 < b.2.1 ∨ (a.2.1 = b.2.1 ∧ a.2.2 < b.2.2))) := by
  unfold ltE
  split
  · split
    · simp; omega
    · simp; omega
  · simp; omega
theorem ltE_no (a b : E3) : ltE a b = false ↔ ¬ (a.1 < b.1 ∨ (a.1 = b.1 ∧ (a.2.1 < b.2.1 ∨ (a.2.1 = b.2.1 ∧ a.2.2 < b.2.2)))) := by
  rw [← ltE_iff]; simp
theorem ltE_irrefl (a : E3) : ltE a a = false := by rw [ltE_no]; omega
theorem ltE_trans (a b c : E3) (h1 : ltE a b = true) (h2 : ltE b c = true) : ltE a c = true := by
  rw [ltE_iff] at *; omega
theorem ltE_ntrans (a b c : E3) (h1 : ltE a b = false) (h2 : ltE b c = false) : ltE a c = false := by
  rw [ltE_no] at *; omega
theorem ltE_one (a b : E3) (h1 : ltE a b = false) (h2 : ltE b a = false) : a = b := by
  rw [ltE_no] at *
  obtain ⟨a1, a2, a3⟩ := a
  obtain ⟨b1, b2, b3⟩ := b
  simp only at h1 h2
  have e1 : a1 = b1 := by omega
  have e2 : a2 = b2 := by omega
  have e3 : a3 = b3 := by omega
  rw [e1, e2, e3]
/-- in order, each once -/
abbrev Strict (l : List E3) : Prop := l.Pairwise fun a b => ltE a b = true
/-- two lists in order, each once, of the same edges are one -/
theorem strict_one : ∀ (l m : List E3), Strict l → Strict m → (∀ x, x ∈ l ↔ x ∈ m) → l = m
  | [], [], _, _, _ => rfl
  | [], b :: m, _, _, h => by have := (h b).2 (List.mem_cons_self ..); cases this
  | a :: l, [], _, _, h => by have := (h a).1 (List.mem_cons_self ..); cases this
  | a :: l, b :: m, hl, hm, h => by
    rw [Strict, List.pairwise_cons] at hl hm
    have e : a = b := by
      rcases List.mem_cons.1 ((h a).1 (List.mem_cons_self ..)) with e | ha
      · exact e
      · rcases List.mem_cons.1 ((h b).2 (List.mem_cons_self ..)) with e | hb
        · exact e.symm
        · have h1 := hm.1 a ha
          have h2 := hl.1 b hb
          have h3 := ltE_trans _ _ _ h1 h2
          rw [ltE_irrefl] at h3; cases h3
    subst e
    rw [strict_one l m hl.2 hm.2 (fun x => ?_)]
    constructor
    · intro hx
      rcases List.mem_cons.1 ((h x).1 (List.mem_cons_of_mem _ hx)) with e | hx'
      · subst e
        have := hl.1 x hx
        rw [ltE_irrefl] at this; cases this
      · exact hx'
    · intro hx
      rcases List.mem_cons.1 ((h x).2 (List.mem_cons_of_mem _ hx)) with e | hx'
      · subst e
        have := hm.1 x hx
        rw [ltE_irrefl] at this; cases this
      · exact hx'

/-! ### what is the same as the one ahead of it falls -/
def ddF (p : E3) : List E3 → List E3
  | [] => []
  | x :: l => if x = p then ddF p l else x :: ddF x l
def dd : List E3 → List E3
  | [] => []
  | a :: l => a :: ddF a l
theorem ddF_mem : ∀ (l : List E3) (p x : E3), (x = p ∨ x ∈ ddF p l) ↔ (x = p ∨ x ∈ l)
  | [], _, _ => by simp [ddF]
  | y :: l, p, x => by
    unfold ddF
    by_cases h : y = p
    · rw [if_pos h, ddF_mem l p x, h]; simp
    · rw [if_neg h, List.mem_cons, List.mem_cons, ddF_mem l y x]
theorem dd_mem (l : List E3) (x : E3) : x ∈ dd l ↔ x ∈ l := by
  cases l with
  | nil => rfl
  | cons a l => unfold dd; rw [List.mem_cons, List.mem_cons, ddF_mem]
theorem ddF_strict : ∀ (l : List E3) (p : E3), (p :: l).Pairwise (fun a b => ltE b a = false) → Strict (p :: ddF p l)
  | [], p, _ => by simp [ddF]
  | y :: l, p, h => by
    unfold ddF
    rw [List.pairwise_cons, List.pairwise_cons] at h
    obtain ⟨h1, h2, h3⟩ := h
    by_cases e : y = p
    · rw [if_pos e]
      exact ddF_strict l p (List.pairwise_cons.2 ⟨fun b hb => h1 b (List.mem_cons_of_mem _ hb), h3⟩)
    · rw [if_neg e]
      have ih := ddF_strict l y (List.pairwise_cons.2 ⟨h2, h3⟩)
      refine List.pairwise_cons.2 ⟨fun b hb => ?_, ih⟩
      have hy : ltE p y = true := by
        cases hc : ltE p y with
        | true => rfl
        | false => exact absurd (ltE_one _ _ (h1 y (List.mem_cons_self ..)) hc) e
      rcases List.mem_cons.1 hb with e2 | hb2
      · rw [e2]; exact hy
      · exact ltE_trans _ _ _ hy ((List.pairwise_cons.1 ih).1 b hb2)
theorem dd_strict (l : List E3) (h : l.Pairwise (fun a b => ltE b a = false)) : Strict (dd l) := by
  cases l with
  | nil => exact List.Pairwise.nil
  | cons a l => exact ddF_strict l a h
theorem ddF_len : ∀ (l : List E3) (p : E3), (ddF p l).length ≤ l.length
  | [], _ => Nat.le_refl _
  | y :: l, p => by
    unfold ddF
    split
    · exact Nat.le_succ_of_le (ddF_len l p)
    · exact Nat.succ_le_succ (ddF_len l y)
theorem dd_len (l : List E3) : (dd l).length ≤ l.length := by
  cases l with
  | nil => exact Nat.le_refl _
  | cons a l => exact Nat.succ_le_succ (ddF_len l a)
theorem ddF_snoc : ∀ (l : List E3) (p x : E3), ddF p (l ++ [x]) = ddF p l ++ (if x = (p :: l).getLast (List.cons_ne_nil _ _) then [] else [x])
  | [], p, x => by
    by_cases h : x = p <;> simp [ddF, h]
  | y :: l, p, x => by
    rw [List.cons_append]
    unfold ddF
    have e : (p :: y :: l).getLast (List.cons_ne_nil _ _) = (y :: l).getLast (List.cons_ne_nil _ _) := List.getLast_cons (List.cons_ne_nil _ _)
    by_cases h : y = p
    · rw [if_pos h, if_pos h, ddF_snoc l p x, e]
      subst h; rfl
    · rw [if_neg h, if_neg h, ddF_snoc l y x, e, List.cons_append]
theorem dd_snoc (l : List E3) (h : l ≠ []) (x : E3) : dd (l ++ [x]) = dd l ++ (if x = l.getLast h then [] else [x]) := by
  cases l with
  | nil => exact absurd rfl h
  | cons a l => show a :: ddF a (l ++ [x]) = _; rw [ddF_snoc]; rfl
/-- edges in order, each once -/
def ordE (l : List E3) : List E3 := dd (l.mergeSort fun x y => !ltE y x)
theorem sort_pair (l : List E3) : (l.mergeSort fun x y => !ltE y x).Pairwise (fun a b => ltE b a = false) := by
  have h := List.pairwise_mergeSort (le := fun x y => !ltE y x) (fun a b c h1 h2 => by
    simp at h1 h2 ⊢
    exact ltE_ntrans _ _ _ h2 h1) (fun a b => by
    cases h1 : ltE b a with
    | false => simp
    | true =>
      cases h2 : ltE a b with
      | false => simp
      | true => have := ltE_trans _ _ _ h1 h2; rw [ltE_irrefl] at this; cases this) l
  exact h.imp (fun hab => by simpa using hab)
theorem ordE_strict (l : List E3) : Strict (ordE l) := dd_strict _ (sort_pair l)
theorem ordE_mem (l : List E3) (x : E3) : x ∈ ordE l ↔ x ∈ l := by
  unfold ordE
  rw [dd_mem]
  exact (List.mergeSort_perm l _).mem_iff
theorem ordE_len (l : List E3) : (ordE l).length ≤ l.length := by
  have := dd_len (l.mergeSort fun x y => !ltE y x)
  rwa [List.length_mergeSort] at this
theorem ordE_one (l m : List E3) (hm : Strict m) (h : ∀ x, x ∈ m ↔ x ∈ l) : m = ordE l :=
  strict_one _ _ hm (ordE_strict l) (fun x => by rw [h, ordE_mem])
theorem ordE_self (l : List E3) (h : Strict l) : ordE l = l := (ordE_one l l h (fun _ => Iff.rfl)).symm

/-! ### what a graph may be -/
abbrev edgeOk (n s : Int) (e : E3) : Prop := 0 ≤ e.1 ∧ e.1 < n ∧ 0 ≤ e.2.1 ∧ e.2.1 < s ∧ 0 ≤ e.2.2 ∧ e.2.2 < n
abbrev sizeOk (n s : Int) (m : Nat) : Prop := 1 ≤ n ∧ n ≤ 10000 ∧ 1 ≤ s ∧ s ≤ 26 ∧ m ≤ 20000

/-! ### how many edges are from nodes ahead -/
/-- edges by where they are from -/
abbrev Rising (l : List E3) : Prop := l.Pairwise fun a b => a.1 ≤ b.1
theorem strict_rising {l : List E3} (h : Strict l) : Rising l := h.imp (fun hab => by rw [ltE_iff] at hab; omega)
/-- how many edges are from nodes ahead of u -/
def ah (l : List E3) (u : Nat) : Nat := l.countP fun e => decide (e.1 < (u : Int))
theorem ah_le (l : List E3) (u : Nat) : ah l u ≤ l.length := List.countP_le_length
theorem ah_mono (l : List E3) {u v : Nat} (h : u ≤ v) : ah l u ≤ ah l v := by
  unfold ah
  exact List.countP_mono_left (fun x _ hx => by simp at hx ⊢; omega)
theorem ah_zero (l : List E3) (h : ∀ e ∈ l, 0 ≤ e.1) : ah l 0 = 0 := by
  unfold ah
  rw [List.countP_eq_zero]
  intro e he
  have := h e he
  simp; omega
theorem ah_all (l : List E3) (n : Nat) (h : ∀ e ∈ l, e.1 < (n : Int)) : ah l n = l.length := by
  unfold ah
  rw [List.countP_eq_length]
  intro e he
  simpa using h e he
/-- the edge at a place is from ahead of u just if the place is ahead of their number -/
theorem ah_at : ∀ (l : List E3) (u i : Nat) (e : E3), Rising l → l[i]? = some e → (e.1 < (u : Int) ↔ i < ah l u)
  | [], _, _, _, _, h => by cases h
  | a :: l, u, i, e, hr, h => by
    rw [Rising, List.pairwise_cons] at hr
    unfold ah
    rw [List.countP_cons]
    cases i with
    | zero =>
      simp at h; subst h
      by_cases ha : a.1 < (u : Int)
      · simp [ha]
      · have h0 : l.countP (fun e => decide (e.1 < (u : Int))) = 0 := by
          rw [List.countP_eq_zero]
          intro b hb
          have := hr.1 b hb
          simp; omega
        rw [h0]; simp [ha]
    | succ i =>
      have h' : l[i]? = some e := by simpa using h
      have ih := ah_at l u i e hr.2 h'
      unfold ah at ih
      by_cases ha : a.1 < (u : Int)
      · simp only [ha, decide_true, if_true]; omega
      · have h0 : l.countP (fun e => decide (e.1 < (u : Int))) = 0 := by
          rw [List.countP_eq_zero]
          intro b hb
          have := hr.1 b hb
          simp; omega
        have he := hr.1 e (List.mem_of_getElem? h')
        rw [h0]; simp [ha]; omega
end Go.Proofs.Ytphjbbbnbmafnaa.Gm
