/-
  The document's reading of an expression: rows, the pieces of the last row; what each byte does to them: without the program.
-/
import Derived.Test.YtphjbbbnbmafnabGreatDoorRxF
namespace Go.Proofs.YtphjbbbnbmafnabGreatDoor.RxM
open Rx
/-- all, one behind the other; one of all -/
def cats (l : List Rx) : Rx := l.foldl cat eps
def alts (l : List Rx) : Rx := l.foldl alt void
theorem cats_snoc (l : List Rx) (x : Rx) : cats (l ++ [x]) = cat (cats l) x := by unfold cats; rw [List.foldl_append]; rfl
theorem alts_snoc (l : List Rx) (x : Rx) : alts (l ++ [x]) = alt (alts l) x := by unfold alts; rw [List.foldl_append]; rfl
/-- rows and the pieces of the last row -/
def frm (rows ps : List Rx) : Fr := (alts rows, cats ps.dropLast, ps.getLast?)
theorem snoc_cases (ps : List Rx) : ps = [] ∨ ∃ qs p, ps = qs ++ [p] := by
  rcases List.eq_nil_or_concat ps with e | ⟨qs, p, e⟩
  · exact .inl e
  · exact .inr ⟨qs, p, by simpa using e⟩
theorem frm_snoc (rows qs : List Rx) (p : Rx) : frm rows (qs ++ [p]) = (alts rows, cats qs, some p) := by unfold frm; simp
theorem frm_nil (rows : List Rx) : frm rows [] = (alts rows, eps, none) := rfl
theorem ab_frm (ps : List Rx) : ab (cats ps.dropLast) ps.getLast? = cats ps := by
  rcases snoc_cases ps with rfl | ⟨qs, p, rfl⟩
  · rfl
  · simp [ab, cats_snoc]
theorem fin_frm (rows ps : List Rx) : fin (frm rows ps) = alts (rows ++ [cats ps]) := by
  rw [alts_snoc, ← ab_frm ps]
  rfl
/-- what was read of a text -/
def Got (n : Nat) (q : List Nat) (rows ps : List Rx) : Prop := run n q [init] = some [frm rows ps]
theorem got_nil (n : Nat) : Got n [] [] [] := rfl
theorem Got.done {n : Nat} {q : List Nat} {rows ps : List Rx} (h : Got n q rows ps) : read n q = some (alts (rows ++ [cats ps])) := by
  rw [read_some h, fin_frm]
theorem Got.more {n c : Nat} {q : List Nat} {rows ps rows2 ps2 : List Rx} (h : Got n q rows ps) (hs : step n c [frm rows ps] = some [frm rows2 ps2]) : Got n (q ++ [c]) rows2 ps2 := by
  unfold Got
  rw [run_app, show run n q [init] = _ from h]
  simp only [Option.bind_some]
  rw [run_one, hs]
theorem Got.stop {n c : Nat} {q s : List Nat} {rows ps : List Rx} (h : Got n q rows ps) (hs : step n c [frm rows ps] = none) : read n (q ++ c :: s) = none :=
  read_none (dead_app h (dead_step hs))
theorem Got.bar {n : Nat} {q : List Nat} {rows ps : List Rx} (h : Got n q rows ps) : Got n (q ++ [124]) (rows ++ [cats ps]) [] := h.more (by
  rw [show frm rows ps = (alts rows, cats ps.dropLast, ps.getLast?) from rfl, step124, ab_frm, frm_nil, alts_snoc])
theorem Got.star {n : Nat} {q : List Nat} {rows qs : List Rx} {p : Rx} (h : Got n q rows (qs ++ [p])) : Got n (q ++ [42]) rows (qs ++ [star p]) := h.more (by rw [frm_snoc, frm_snoc, step42])
theorem Got.nostar {n : Nat} {q s : List Nat} {rows : List Rx} (h : Got n q rows []) : read n (q ++ 42 :: s) = none := h.stop (by rw [frm_nil, step42_none])
theorem Got.point {n : Nat} {q : List Nat} {rows ps : List Rx} (h : Got n q rows ps) : Got n (q ++ [46]) rows (ps ++ [sym none]) := h.more (by
  rw [show frm rows ps = (alts rows, cats ps.dropLast, ps.getLast?) from rfl, step46, ab_frm, frm_snoc])
theorem Got.letter {n c : Nat} {q : List Nat} {rows ps : List Rx} (h : Got n q rows ps) (hc : c < n) (hn : n ≤ 26) : Got n (q ++ [97 + c]) rows (ps ++ [sym (some c)]) := h.more (by
  rw [show frm rows ps = (alts rows, cats ps.dropLast, ps.getLast?) from rfl, step_let n c _ _ _ _ hc hn, ab_frm, frm_snoc])
theorem Got.bad {n c : Nat} {q s : List Nat} {rows ps : List Rx} (h : Got n q rows ps) (h1 : c ≠ 124) (h2 : c ≠ 42) (h3 : c ≠ 40) (h5 : c ≠ 46) (h6 : ¬ (97 ≤ c ∧ c < 97 + n)) : read n (q ++ c :: s) = none := h.stop (by
  by_cases h4 : c = 41
  · subst h4; exact step41_none n _
  · exact step_bad n c _ _ _ _ h1 h2 h3 h4 h5 h6)
theorem Got.open_ {n : Nat} {q s : List Nat} {rows ps : List Rx} (h : Got n q rows ps) (hc : cl s 1 = none) : read n (q ++ 40 :: s) = none := by
  refine read_none (dead_app h fun f hf => ?_)
  rw [show frm rows ps = (alts rows, cats ps.dropLast, ps.getLast?) from rfl] at hf
  simp only [run, step40, Option.bind_some] at hf
  exact dead_open hc f hf
/-- what a bracket holds is read by itself -/
theorem Got.bracket {n k : Nat} {q s : List Nat} {rows ps : List Rx} (h : Got n q rows ps) (hc : cl s 1 = some k) : (∀ t, read n (s.take k) = some t → Got n (q ++ 40 :: s.take (k + 1)) rows (ps ++ [t])) ∧ (read n (s.take k) = none → read n (q ++ 40 :: s) = none) := by
  obtain ⟨b, s2, rfl, hk, hd⟩ := cl_found s 0 k hc
  have e1 : (b ++ 41 :: s2).take k = b := by rw [← hk]; simp
  have e2 : (b ++ 41 :: s2).take (k + 1) = b ++ [41] := by rw [← hk, List.take_length_add_append]; rfl
  rw [e1, e2]
  rcases run_bracket (n := n) hd [(alts rows, cats ps, none)] with ⟨h1, h2⟩ | ⟨f, h1, h2⟩
  · refine ⟨fun t ht => ?_, fun _ => ?_⟩
    · unfold read at ht
      rw [h1] at ht
      cases ht
    · refine read_none (dead_app h fun f hf => ?_)
      rw [show frm rows ps = (alts rows, cats ps.dropLast, ps.getLast?) from rfl] at hf
      simp only [run, step40, Option.bind_some, ab_frm] at hf
      rw [run_app, h2] at hf
      cases hf
  · refine ⟨fun t ht => ?_, fun hn => ?_⟩
    · have et : t = fin f := by rw [read_some h1] at ht; injection ht with e; exact e.symm
      unfold Got
      rw [run_app, show run n q [init] = _ from h, show frm rows ps = (alts rows, cats ps.dropLast, ps.getLast?) from rfl]
      simp only [Option.bind_some, run, step40, ab_frm]
      rw [run_app, h2]
      simp only [Option.bind_some]
      rw [run_one, step41, frm_snoc, et]
    · rw [read_some h1] at hn
      cases hn
theorem size_cats_snoc (l : List Rx) (x : Rx) : size (cats (l ++ [x])) = size (cats l) + size x := by rw [cats_snoc]; rfl
/-- no more letters than bytes -/
theorem step_size {n c : Nat} {st st' : List Fr} (h : step n c st = some st') : (st'.map fun f => size (fin f)).sum ≤ (st.map fun f => size (fin f)).sum + 1 := by
  cases st with
  | nil => cases h
  | cons f st =>
    obtain ⟨a, r, p⟩ := f
    unfold step at h
    simp only at h
    split at h
    · injection h with h; subst h; simp [fin, ab, size]
    · split at h
      · cases p with
        | none => cases h
        | some q => injection h with h; subst h; simp [fin, ab, size]
      · split at h
        · injection h with h; subst h; simp [fin, init, ab, size]
        · split at h
          · cases st with
            | nil => cases h
            | cons g st =>
              obtain ⟨a', r', p'⟩ := g
              injection h with h; subst h
              cases p' <;> simp [fin, ab, size] <;> omega
          · split at h
            · injection h with h; subst h; simp [fin, ab, size]; omega
            · split at h
              · injection h with h; subst h; simp [fin, ab, size]; omega
              · cases h
theorem run_size {n : Nat} : ∀ {s : List Nat} {st st' : List Fr}, run n s st = some st' → (st'.map fun f => size (fin f)).sum ≤ (st.map fun f => size (fin f)).sum + s.length
  | [], st, st', h => by injection h with h; subst h; simp
  | c :: s, st, st', h => by
    unfold run at h
    cases e : step n c st with
    | none => rw [e] at h; cases h
    | some x =>
      rw [e] at h
      have h1 := step_size e
      have h2 := run_size (s := s) h
      simp only [List.length_cons]
      omega
theorem read_size {n : Nat} {s : List Nat} {t : Rx} (h : read n s = some t) : size t ≤ s.length := by
  unfold read at h
  split at h
  · rename_i f hf
    injection h with h
    subst h
    have := run_size hf
    simpa [init, fin, ab, size] using this
  · cases h
end Go.Proofs.YtphjbbbnbmafnabGreatDoor.RxM
