/-
  The walk over a graph as it lies: what is known of the ways to each node, and the nodes that wait.
-/
import Derived.Test.YtphjbbbnbmafnabGreatDoorXRe
namespace Go.Proofs.YtphjbbbnbmafnabGreatDoor.G
open Go.RowKit Go.Shelf Go.Proofs.YtphjbbbnbmafnabGreatDoor.RxM

/-- what is known of the ways to one node: seen, fresh, its edges, and whether they were asked for -/
abbrev Wst := S4 × S4 × Value × Bool
def flat10 (l : List Wst) : List Value := l.flatMap fun x => [.int .u64 (x.1.1 : Int), .int .u64 (x.1.2.1 : Int), .int .u64 (x.1.2.2.1 : Int), .int .u64 (x.1.2.2.2 : Int), .int .u64 (x.2.1.1 : Int), .int .u64 (x.2.1.2.1 : Int), .int .u64 (x.2.1.2.2.1 : Int), .int .u64 (x.2.1.2.2.2 : Int), x.2.2.1, .bool x.2.2.2]
theorem flat10_cons (x : Wst) (l : List Wst) : flat10 (x :: l) = .int .u64 (x.1.1 : Int) :: .int .u64 (x.1.2.1 : Int) :: .int .u64 (x.1.2.2.1 : Int) :: .int .u64 (x.1.2.2.2 : Int) :: .int .u64 (x.2.1.1 : Int) :: .int .u64 (x.2.1.2.1 : Int) :: .int .u64 (x.2.1.2.2.1 : Int) :: .int .u64 (x.2.1.2.2.2 : Int) :: x.2.2.1 :: .bool x.2.2.2 :: flat10 l := rfl
theorem flat10_len (l : List Wst) : (flat10 l).length = l.length * 10 := by
  induction l with
  | nil => rfl
  | cons x l ih => rw [flat10_cons]; simp only [List.length_cons, ih]; omega
theorem flat10_at (l : List Wst) (j : Nat) (x : Wst) (h : l[j]? = some x) : (flat10 l)[j * 10]? = some (.int .u64 (x.1.1 : Int)) ∧ (flat10 l)[j * 10 + 1]? = some (.int .u64 (x.1.2.1 : Int)) ∧ (flat10 l)[j * 10 + 2]? = some (.int .u64 (x.1.2.2.1 : Int)) ∧ (flat10 l)[j * 10 + 3]? = some (.int .u64 (x.1.2.2.2 : Int)) ∧ (flat10 l)[j * 10 + 4]? = some (.int .u64 (x.2.1.1 : Int)) ∧ (flat10 l)[j * 10 + 5]? = some (.int .u64 (x.2.1.2.1 : Int)) ∧ (flat10 l)[j * 10 + 6]? = some (.int .u64 (x.2.1.2.2.1 : Int)) ∧ (flat10 l)[j * 10 + 7]? = some (.int .u64 (x.2.1.2.2.2 : Int)) ∧ (flat10 l)[j * 10 + 8]? = some x.2.2.1 ∧ (flat10 l)[j * 10 + 9]? = some (.bool x.2.2.2) := by
  induction l generalizing j with
  | nil => simp at h
  | cons y l ih =>
    rw [flat10_cons]
    cases j with
    | zero => simp at h; subst h; exact ⟨rfl, rfl, rfl, rfl, rfl, rfl, rfl, rfl, rfl, rfl⟩
    | succ j =>
      rw [List.getElem?_cons_succ] at h
      have := ih j h
      rw [show (j + 1) * 10 = j * 10 + 10 by omega]
      exact this
/-- the places of a node's ways are written -/
theorem flat10_seen (l : List Wst) (j : Nat) (x : Wst) (h : l[j]? = some x) (s : S4) : ((((flat10 l).set (j * 10) (.int .u64 (s.1 : Int))).set (j * 10 + 1) (.int .u64 (s.2.1 : Int))).set (j * 10 + 2) (.int .u64 (s.2.2.1 : Int))).set (j * 10 + 3) (.int .u64 (s.2.2.2 : Int)) = flat10 (l.set j (s, x.2)) := by
  induction l generalizing j with
  | nil => simp at h
  | cons y l ih =>
    rw [flat10_cons]
    cases j with
    | zero => simp at h; subst h; rfl
    | succ j =>
      rw [List.getElem?_cons_succ] at h
      rw [show ∀ z, (y :: l).set (j + 1) z = y :: l.set j z from fun _ => rfl, flat10_cons y (l.set j _), ← ih j h, show (j + 1) * 10 = j * 10 + 10 by omega]
      rfl
theorem flat10_fresh (l : List Wst) (j : Nat) (x : Wst) (h : l[j]? = some x) (s : S4) : ((((flat10 l).set (j * 10 + 4) (.int .u64 (s.1 : Int))).set (j * 10 + 5) (.int .u64 (s.2.1 : Int))).set (j * 10 + 6) (.int .u64 (s.2.2.1 : Int))).set (j * 10 + 7) (.int .u64 (s.2.2.2 : Int)) = flat10 (l.set j (x.1, s, x.2.2)) := by
  induction l generalizing j with
  | nil => simp at h
  | cons y l ih =>
    rw [flat10_cons]
    cases j with
    | zero => simp at h; subst h; rfl
    | succ j =>
      rw [List.getElem?_cons_succ] at h
      rw [show ∀ z, (y :: l).set (j + 1) z = y :: l.set j z from fun _ => rfl, flat10_cons y (l.set j _), ← ih j h, show (j + 1) * 10 = j * 10 + 10 by omega]
      rfl
theorem flat10_edges (l : List Wst) (j : Nat) (x : Wst) (h : l[j]? = some x) (v : Value) (b : Bool) : ((flat10 l).set (j * 10 + 8) v).set (j * 10 + 9) (.bool b) = flat10 (l.set j (x.1, x.2.1, v, b)) := by
  induction l generalizing j with
  | nil => simp at h
  | cons y l ih =>
    rw [flat10_cons]
    cases j with
    | zero => simp at h; subst h; rfl
    | succ j =>
      rw [List.getElem?_cons_succ] at h
      rw [show ∀ z, (y :: l).set (j + 1) z = y :: l.set j z from fun _ => rfl, flat10_cons y (l.set j _), ← ih j h, show (j + 1) * 10 = j * 10 + 10 by omega]
      rfl
/-- the row of what is known of each node -/
abbrev OwnSts (w : World) (base g n : Nat) (l : List Wst) : Prop := w.ownsRow base 130 10 (.slice (some ⟨g, 0, none⟩) n n) n (flat10 l)
/-- numbers of nodes as they lie -/
abbrev ints (l : List Nat) : List Value := l.map fun (v : Nat) => Value.int .i64 (v : Int)
/-- the walk as it lies; outs: the edges from a node -/
structure WkAt (outs : Nat → List E3) (w : World) (base K Gp X n gs : Nat) (wv : Value) (l : List Wst) (wait : List Nat) : Prop where
  rK : w.heap[K]? = some (.cells #[.pointer (some ⟨Gp, 0, none⟩), .pointer (some ⟨X, 0, none⟩), .slice (some ⟨gs, 0, none⟩) n n, wv] 125 (0, 0))
  os : OwnSts w base gs n l
  ow : w.ownsRow base 3 1 wv wait.length (ints wait)
  len : l.length = n
  ok : ∀ x ∈ l, ok4 x.1 ∧ ok4 x.2.1
  ne : K ≠ gs ∧ ∀ g, wv.ownBlock = some g → g ≠ K ∧ g ≠ gs
  bs : base ≤ K ∧ base ≤ gs
  ed : ∀ (u : Nat) (x : Wst), l[u]? = some x → x.2.2.2 = true → w.ownsRow base 41 3 x.2.2.1 (outs u).length (flat (outs u)) ∧ ∀ g, x.2.2.1.ownBlock = some g → g ≠ K ∧ g ≠ gs ∧ wv.ownBlock ≠ some g
variable {outs : Nat → List E3}
theorem WkAt.lt {w : World} {base K Gp X n gs : Nat} {wv : Value} {l : List Wst} {wait : List Nat} (h : WkAt outs w base K Gp X n gs wv l wait) : K < w.heap.size ∧ gs < w.heap.size ∧ ∀ g, wv.ownBlock = some g → base ≤ g ∧ g < w.heap.size :=
  ⟨(Array.getElem?_eq_some_iff.1 h.rK).1, (h.os.lt gs rfl).2, h.ow.lt⟩
/-- other memory is written -/
theorem WkAt.same {w w' : World} {S : Nat → Prop} {base K Gp X n gs : Nat} {wv : Value} {l : List Wst} {wait : List Nat} (h : WkAt outs w base K Gp X n gs wv l wait) (hs : Same w w' S) (hK : ¬ S K) (hg : ¬ S gs) (hw : ∀ g, wv.ownBlock = some g → ¬ S g) (he : ∀ (u : Nat) (x : Wst), l[u]? = some x → x.2.2.2 = true → ∀ g, x.2.2.1.ownBlock = some g → ¬ S g) : WkAt outs w' base K Gp X n gs wv l wait :=
  ⟨hs.row h.rK hK, own_same h.os hs (fun g e => by simp only [Value.ownBlock, Option.some.injEq] at e; subst e; exact hg), own_same h.ow hs hw, h.len, h.ok, h.ne, h.bs, fun u x hx ha => ⟨own_same (h.ed u x hx ha).1 hs (he u x hx ha), (h.ed u x hx ha).2⟩⟩
theorem WkAt.below {w w' : World} {base K Gp X n gs : Nat} {wv : Value} {l : List Wst} {wait : List Nat} (h : WkAt outs w base K Gp X n gs wv l wait) (hB : Below w.heap.size w w') : WkAt outs w' base K Gp X n gs wv l wait :=
  h.same (Same.below hB) id id (fun _ _ => id) (fun _ _ _ _ _ _ => id)
/-- the row of the nodes is written where it is -/
theorem WkAt.wrote {w w' : World} {base K Gp X n gs : Nat} {wv : Value} {l l' : List Wst} {wait : List Nat} (h : WkAt outs w base K Gp X n gs wv l wait) (hs : Same w w' (fun k => k = gs)) (ho : OwnSts w' base gs n l') (hlen : l'.length = n) (hok : ∀ x ∈ l', ok4 x.1 ∧ ok4 x.2.1)
    (he : ∀ (u : Nat) (x' : Wst), l'[u]? = some x' → x'.2.2.2 = true → ∃ x : Wst, l[u]? = some x ∧ x.2.2 = x'.2.2) : WkAt outs w' base K Gp X n gs wv l' wait := by
  refine ⟨hs.row h.rK h.ne.1, ho, own_same h.ow hs (fun g e => (h.ne.2 g e).2), hlen, hok, h.ne, h.bs, fun u x' hx ha => ?_⟩
  obtain ⟨x, hx1, hx2⟩ := he u x' hx ha
  have := h.ed u x hx1 (by rw [hx2]; exact ha)
  rw [hx2] at this
  exact ⟨own_same this.1 hs (fun g e => (this.2 g e).2.1), this.2⟩
theorem set_ed {l : List Wst} {v : Nat} {x : Wst} (hx : l[v]? = some x) {s f : S4} (u : Nat) (x' : Wst) (h : (l.set v (s, f, x.2.2))[u]? = some x') : ∃ y, l[u]? = some y ∧ y.2.2 = x'.2.2 := by
  by_cases e : v = u
  · subst e
    rw [List.getElem?_set_self (List.getElem?_eq_some_iff.1 hx).1] at h
    injection h with h
    subst h
    exact ⟨x, hx, rfl⟩
  · rw [List.getElem?_set_ne e] at h
    exact ⟨x', h, rfl⟩
theorem set_ok {l : List Wst} (h : ∀ x ∈ l, ok4 x.1 ∧ ok4 x.2.1) (v : Nat) {y : Wst} (hy : ok4 y.1 ∧ ok4 y.2.1) : ∀ x ∈ l.set v y, ok4 x.1 ∧ ok4 x.2.1 := fun x hx => by
  rcases List.mem_or_eq_of_mem_set hx with hx | rfl
  · exact h x hx
  · exact hy
end Go.Proofs.YtphjbbbnbmafnabGreatDoor.G
