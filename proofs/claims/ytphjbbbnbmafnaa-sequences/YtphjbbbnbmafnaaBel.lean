/-
  How many numbers of a stretch of a list are below one, and how many are it; that the k-th least of them is one alone. No condition.
-/
import Derived.Test.YtphjbbbnbmafnaaLevel
namespace Go.Proofs.Ytphjbbbnbmafnaa

/-- how many numbers from x up to y are below c -/
def bel (l : List Nat) (x y c : Nat) : Nat := (((l.take y).drop x).filter (fun z => decide (z < c))).length
/-- how many of them are c -/
def eqn (l : List Nat) (x y c : Nat) : Nat := (((l.take y).drop x).filter (fun z => z == c)).length
theorem eqn_cnt {l : List Nat} {x y : Nat} (c : Nat) (h1 : x ≤ y) (h2 : y ≤ l.length) : eqn l x y c + cnt (eqf l c) x = cnt (eqf l c) y := by
  unfold eqn
  rw [cnt_eqf l c y h2, cnt_eqf l c x (by omega)]
  have e : l.take y = l.take x ++ (l.take y).drop x := by
    have := List.take_append_drop x (l.take y)
    rw [List.take_take, Nat.min_eq_left h1] at this
    exact this.symm
  conv => rhs; rw [e, List.filter_append, List.length_append]
  omega
theorem bel_le (l : List Nat) (x y c : Nat) : bel l x y c ≤ l.length := by
  unfold bel
  refine Nat.le_trans (List.length_filter_le _ _) ?_
  simp; omega
/-- the k-th least number is one alone -/
theorem least_uniq {s : List Nat} {k c e : Nat} (h1 : (s.filter (fun z => decide (z < c))).length ≤ k) (h2 : k < (s.filter (fun z => decide (z < c))).length + (s.filter (fun z => z == c)).length)
    (h3 : (s.filter (fun z => decide (z < e))).length ≤ k) (h4 : k < (s.filter (fun z => decide (z < e))).length + (s.filter (fun z => z == e)).length) : c = e := by
  have key : ∀ a b, a < b → (s.filter (fun z => decide (z < a))).length + (s.filter (fun z => z == a)).length ≤ (s.filter (fun z => decide (z < b))).length := by
    intro a b hab
    clear h1 h2 h3 h4
    induction s with
    | nil => simp
    | cons z r ih =>
      simp only [List.filter_cons]
      rcases Nat.lt_trichotomy z a with h | h | h
      · have e1 : decide (z < a) = true := by simpa using h
        have e2 : (z == a) = false := by simp; omega
        have e3 : decide (z < b) = true := by simp; omega
        rw [e1, e2, e3]; simp only [if_true, Bool.false_eq_true, if_false, List.length_cons]; omega
      · have e1 : decide (z < a) = false := by simp; omega
        have e2 : (z == a) = true := by simpa using h
        have e3 : decide (z < b) = true := by simp; omega
        rw [e1, e2, e3]; simp only [if_true, Bool.false_eq_true, if_false, List.length_cons]; omega
      · have e1 : decide (z < a) = false := by simp; omega
        have e2 : (z == a) = false := by simp; omega
        rw [e1, e2]
        simp only [Bool.false_eq_true, if_false]
        cases decide (z < b) <;> simp only [if_true, Bool.false_eq_true, if_false, List.length_cons] <;> omega
  rcases Nat.lt_trichotomy c e with h | h | h
  · have := key c e h; omega
  · exact h
  · have := key e c h; omega
end Go.Proofs.Ytphjbbbnbmafnaa
