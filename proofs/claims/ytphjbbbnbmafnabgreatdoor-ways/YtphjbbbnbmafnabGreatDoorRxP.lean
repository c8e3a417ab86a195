/-
  How an expression is read from the front, row by row, and when nothing can come of it any more: without the program.
-/
import Derived.Test.YtphjbbbnbmafnabGreatDoorRxM
namespace Go.Proofs.YtphjbbbnbmafnabGreatDoor.RxM
open Rx
/-- a row, read from the front: what was read of it, and what is left -/
def RowTo (n : Nat) (q : List Nat) (r : Rx) (p : Option Rx) : Prop := ∀ a, run n q [(a, eps, none)] = some [(a, r, p)]
theorem rowTo_nil (n : Nat) : RowTo n [] eps none := fun _ => rfl
theorem step40 (n : Nat) (a r : Rx) (p : Option Rx) (st : List Fr) : step n 40 ((a, r, p) :: st) = some (init :: (a, ab r p, none) :: st) := by simp [step]
theorem step41 (n : Nat) (f : Fr) (a r : Rx) (p : Option Rx) (st : List Fr) : step n 41 (f :: (a, r, p) :: st) = some ((a, r, some (fin f)) :: st) := by simp [step]
theorem step41_none (n : Nat) (f : Fr) : step n 41 [f] = none := by simp [step]
theorem step42 (n : Nat) (a r p : Rx) (st : List Fr) : step n 42 ((a, r, some p) :: st) = some ((a, r, some (star p)) :: st) := by simp [step]
theorem step42_none (n : Nat) (a r : Rx) (st : List Fr) : step n 42 ((a, r, none) :: st) = none := by simp [step]
theorem step46 (n : Nat) (a r : Rx) (p : Option Rx) (st : List Fr) : step n 46 ((a, r, p) :: st) = some ((a, ab r p, some (sym none)) :: st) := by simp [step]
theorem step124 (n : Nat) (a r : Rx) (p : Option Rx) (st : List Fr) : step n 124 ((a, r, p) :: st) = some ((alt a (ab r p), eps, none) :: st) := by simp [step]
theorem step_let (n c : Nat) (a r : Rx) (p : Option Rx) (st : List Fr) (h : c < n) (hn : n ≤ 26) : step n (97 + c) ((a, r, p) :: st) = some ((a, ab r p, some (sym (some c))) :: st) := by
  unfold step
  simp only
  rw [if_neg (by omega), if_neg (by omega), if_neg (by omega), if_neg (by omega), if_neg (by omega), if_pos (by omega), Nat.add_sub_cancel_left]
theorem step_bad (n c : Nat) (a r : Rx) (p : Option Rx) (st : List Fr) (h1 : c ≠ 124) (h2 : c ≠ 42) (h3 : c ≠ 40) (h4 : c ≠ 41) (h5 : c ≠ 46) (h6 : ¬ (97 ≤ c ∧ c < 97 + n)) : step n c ((a, r, p) :: st) = none := by
  unfold step
  simp only
  rw [if_neg h1, if_neg h2, if_neg h3, if_neg h4, if_neg h5, if_neg h6]
theorem run_one (n c : Nat) (st : List Fr) : run n [c] st = step n c st := by
  simp only [run]
  cases step n c st <;> rfl
theorem RowTo.snoc {n c : Nat} {q : List Nat} {r r' : Rx} {p p' : Option Rx} (h : RowTo n q r p) (hs : ∀ a, step n c [(a, r, p)] = some [(a, r', p')]) : RowTo n (q ++ [c]) r' p' := fun a => by
  rw [run_app, h a]
  simp only [Option.bind_some]
  rw [run_one, hs a]
theorem RowTo.point {n : Nat} {q : List Nat} {r : Rx} {p : Option Rx} (h : RowTo n q r p) : RowTo n (q ++ [46]) (ab r p) (some (sym none)) := h.snoc fun a => step46 n a r p []
theorem RowTo.letter {n c : Nat} {q : List Nat} {r : Rx} {p : Option Rx} (h : RowTo n q r p) (hc : c < n) (hn : n ≤ 26) : RowTo n (q ++ [97 + c]) (ab r p) (some (sym (some c))) := h.snoc fun a => step_let n c a r p [] hc hn
theorem RowTo.star {n : Nat} {q : List Nat} {r p : Rx} (h : RowTo n q r (some p)) : RowTo n (q ++ [42]) r (some (star p)) := h.snoc fun a => step42 n a r p []
theorem RowTo.over {n : Nat} {q : List Nat} {r : Rx} {p : Option Rx} (h : RowTo n q r p) (a : Rx) (b : List Fr) : run n q ((a, eps, none) :: b) = some ((a, r, p) :: b) := run_frame (h a) b
theorem RowTo.bracket {n : Nat} {q q2 : List Nat} {r : Rx} {p : Option Rx} {f : Fr} (h : RowTo n q r p) (h2 : run n q2 [init] = some [f]) : RowTo n (q ++ 40 :: (q2 ++ [41])) (ab r p) (some (fin f)) := fun a => by
  rw [run_app, h a]
  simp only [Option.bind_some, run]
  rw [step40]
  simp only [Option.bind_some]
  rw [run_app, show [init, (a, ab r p, none)] = [init] ++ [(a, ab r p, none)] from rfl, run_frame h2]
  simp only [Option.bind_some, List.cons_append, List.nil_append]
  rw [run_one, step41]
/-- nothing comes of a row any more -/
def RowDead (n : Nat) (s : List Nat) : Prop := ∀ a b, Dead n s ((a, eps, none) :: b)
/-- where a row, or rows, end: at the end, at a closing bracket, or at what may not be there -/
def Stop (n : Nat) (s : List Nat) (p : Option Rx) : Prop := s = [] ∨ (∃ s2, s = 41 :: s2) ∨ ∃ c s2, s = c :: s2 ∧ c ≠ 124 ∧ ∀ a r st, step n c ((a, r, p) :: st) = none
def StopR (n : Nat) (s : List Nat) (p : Option Rx) : Prop := Stop n s p ∨ ∃ s2, s = 124 :: s2
theorem rowDead_in {n : Nat} {q s : List Nat} {r : Rx} {p : Option Rx} (h : RowTo n q r p) (hd : ∀ b, Dead n s (init :: b)) : RowDead n (q ++ 40 :: s) := fun a b => by
  refine dead_app (h.over a b) fun f hf => ?_
  simp only [run, step40, Option.bind_some] at hf
  exact hd _ f hf
theorem rowDead_open {n : Nat} {q q2 s : List Nat} {r : Rx} {p : Option Rx} {f : Fr} (h : RowTo n q r p) (h2 : run n q2 [init] = some [f]) (hs : Stop n s f.2.2) (hn : ∀ s2, s ≠ 41 :: s2) : RowDead n (q ++ 40 :: (q2 ++ s)) := fun a b => by
  refine dead_app (h.over a b) fun x hx => ?_
  simp only [run, step40, Option.bind_some] at hx
  have := dead_app (t := s) (run_frame h2 ((a, ab r p, none) :: b)) ?_
  · exact this x hx
  · rcases hs with rfl | ⟨s2, rfl⟩ | ⟨c, s2, rfl, _, hc⟩
    · exact dead_nil
    · exact absurd rfl (hn s2)
    · exact dead_step (hc _ _ _)
theorem rowDead_more {n : Nat} {q s : List Nat} {r : Rx} {p : Option Rx} (h : RowTo n q r p) (hd : ∀ a b, Dead n s ((a, r, p) :: b)) : RowDead n (q ++ s) := fun a b => dead_app (h.over a b) (hd a b)
/-- rows with bars between, read from the front -/
def ChoTo (n : Nat) (q : List Nat) (f : Fr) : Prop := run n q [init] = some [f]
def ChoDead (n : Nat) (s : List Nat) : Prop := ∀ b, Dead n s (init :: b)
theorem choTo_row {n : Nat} {q : List Nat} {r : Rx} {p : Option Rx} (h : RowTo n q r p) : ChoTo n q (void, r, p) := h void
theorem ChoTo.row {n : Nat} {q q2 : List Nat} {f : Fr} {r : Rx} {p : Option Rx} (h : ChoTo n q f) (h2 : RowTo n q2 r p) : ChoTo n (q ++ 124 :: q2) (fin f, r, p) := by
  unfold ChoTo
  rw [run_app, show run n q [init] = some [f] from h]
  obtain ⟨a, r0, p0⟩ := f
  simp only [Option.bind_some, run, step124]
  exact h2 _
theorem choDead_row {n : Nat} {s : List Nat} (h : RowDead n s) : ChoDead n s := fun b => h void b
theorem ChoTo.dead {n : Nat} {q s : List Nat} {f : Fr} (h : ChoTo n q f) (h2 : RowDead n s) : ChoDead n (q ++ 124 :: s) := fun b => by
  refine dead_app (run_frame h b) fun x hx => ?_
  obtain ⟨a, r0, p0⟩ := f
  simp only [List.cons_append, List.nil_append, run, step124, Option.bind_some] at hx
  exact h2 _ _ x hx
/-- the whole query -/
theorem read_cho {n : Nat} {q : List Nat} {f : Fr} (h : ChoTo n q f) : read n q = some (fin f) := read_some h
theorem read_left {n c : Nat} {q s : List Nat} {f : Fr} (h : ChoTo n q f) (hs : Stop n (c :: s) f.2.2) : read n (q ++ c :: s) = none := by
  refine read_none (dead_app h ?_)
  rcases hs with e | ⟨s2, e⟩ | ⟨c2, s2, e, _, hc⟩
  · simp at e
  · rw [e]; exact dead_step (step41_none n f)
  · rw [e]; exact dead_step (hc _ _ _)
theorem read_dead {n : Nat} {s : List Nat} (h : ChoDead n s) : read n s = none := read_none (h [])
end Go.Proofs.YtphjbbbnbmafnabGreatDoor.RxM
