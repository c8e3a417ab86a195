/-
  The document's way of finding where ways lead, without the program: letters with which texts begin and end, spots, each once.
  The document's reading of an expression: rows, the pieces of the last row; what each byte does to them: without the program.
-/
import Derived.Test.YtphjbbbnbmafnabGreatDoorRxW
namespace Go.Proofs.YtphjbbbnbmafnabGreatDoor.RxM
open Rx
/-- the places at which texts begin, and end, as lists -/
def firsts : Rx → Nat → List Nat
  | void, _ => [] | eps, _ => []
  | sym _, k => [k]
  | star t, k => firsts t k
  | cat a b, k => firsts a k ++ (if nul a then firsts b (k + size a) else [])
  | alt a b, k => firsts a k ++ firsts b (k + size a)
def lasts : Rx → Nat → List Nat
  | void, _ => [] | eps, _ => []
  | sym _, k => [k]
  | star t, k => lasts t k
  | cat a b, k => (if nul b then lasts a k else []) ++ lasts b (k + size a)
  | alt a b, k => lasts a k ++ lasts b (k + size a)
theorem mem_firsts : ∀ (t : Rx) (k p : Nat), p ∈ firsts t k ↔ fst t k p = true
  | void, _, _ => by simp [firsts, fst]
  | eps, _, _ => by simp [firsts, fst]
  | sym _, _, _ => by simp [firsts, fst]
  | star t, k, p => mem_firsts t k p
  | cat a b, k, p => by
    simp only [firsts, fst, List.mem_append, Bool.or_eq_true, Bool.and_eq_true]
    rw [mem_firsts a k p]
    cases nul a <;> simp [mem_firsts b]
  | alt a b, k, p => by
    simp only [firsts, fst, List.mem_append, Bool.or_eq_true]
    rw [mem_firsts a k p, mem_firsts b]
theorem mem_lasts : ∀ (t : Rx) (k p : Nat), p ∈ lasts t k ↔ lst t k p = true
  | void, _, _ => by simp [lasts, lst]
  | eps, _, _ => by simp [lasts, lst]
  | sym _, _, _ => by simp [lasts, lst]
  | star t, k, p => mem_lasts t k p
  | cat a b, k, p => by
    simp only [lasts, lst, List.mem_append, Bool.or_eq_true, Bool.and_eq_true]
    rw [mem_lasts b]
    cases nul b <;> simp [mem_lasts a, or_comm]
  | alt a b, k, p => by
    simp only [lasts, lst, List.mem_append, Bool.or_eq_true]
    rw [mem_lasts a k p, mem_lasts b]
theorem firsts_len : ∀ (t : Rx) (k : Nat), (firsts t k).length ≤ size t
  | void, _ => by simp [firsts, size]
  | eps, _ => by simp [firsts, size]
  | sym _, _ => by simp [firsts, size]
  | star t, k => firsts_len t k
  | cat a b, k => by
    have h1 := firsts_len a k
    have h2 := firsts_len b (k + size a)
    simp only [firsts, size, List.length_append]
    split <;> simp <;> omega
  | alt a b, k => by
    have h1 := firsts_len a k
    have h2 := firsts_len b (k + size a)
    simp only [firsts, size, List.length_append]
    omega
theorem lasts_len : ∀ (t : Rx) (k : Nat), (lasts t k).length ≤ size t
  | void, _ => by simp [lasts, size]
  | eps, _ => by simp [lasts, size]
  | sym _, _ => by simp [lasts, size]
  | star t, k => lasts_len t k
  | cat a b, k => by
    have h1 := lasts_len a k
    have h2 := lasts_len b (k + size a)
    simp only [lasts, size, List.length_append]
    split <;> simp <;> omega
  | alt a b, k => by
    have h1 := lasts_len a k
    have h2 := lasts_len b (k + size a)
    simp only [lasts, size, List.length_append]
    omega
/-- the document's: the beginning stands behind all letters -/
def nx (t : Rx) (p q : Nat) : Bool := if p = size t then fst t 0 q else nxt t 0 p q
section
variable (E : Nat → Nat → Nat → Prop) (t : Rx) (u : Nat)
/-- spots, each once; i: so many of them are gone on from; X: what is still to be done -/
structure Bfs (spots : List (Nat × Nat)) (seen : Nat → Nat → Bool) (i : Nat) (X : Nat → Nat → Nat → Nat → Nat → Prop) : Prop where
  zero : spots[0]? = some (size t, u)
  sound : ∀ q v, seen q v = true → Way E t 0 u q v
  here : ∀ q v, seen q v = true → (q, v) ∈ spots
  there : ∀ x ∈ spots, x = (size t, u) ∨ seen x.1 x.2 = true
  closed : ∀ j p m, j < i → spots[j]? = some (p, m) → ∀ q c v, nx t p q = true → E m c v → takes (lab t 0 q) c = true → seen q v = true ∨ X p m q c v
end
variable {E : Nat → Nat → Nat → Prop} {t : Rx} {u : Nat}
theorem Bfs.way {spots : List (Nat × Nat)} {seen : Nat → Nat → Bool} {i : Nat} {X : Nat → Nat → Nat → Nat → Nat → Prop} (h : Bfs E t u spots seen i X) {p m q c v : Nat} (hs : (p, m) ∈ spots) (hn : nx t p q = true) (he : E m c v) (ht : takes (lab t 0 q) c = true) : Way E t 0 u q v := by
  rcases h.there _ hs with e | e
  · injection e with e1 e2
    subst e1 e2
    unfold nx at hn
    rw [if_pos rfl] at hn
    exact .one hn ⟨c, ht, he⟩
  · have hw := h.sound _ _ e
    have := hw.in
    unfold nx at hn
    rw [if_neg (by omega)] at hn
    exact .more hw hn ⟨c, ht, he⟩
theorem bfs_end {spots : List (Nat × Nat)} {seen : Nat → Nat → Bool} (h : Bfs E t u spots seen spots.length (fun _ _ _ _ _ => False)) (q v : Nat) : seen q v = true ↔ Way E t 0 u q v := by
  refine ⟨h.sound q v, fun hw => ?_⟩
  induction hw with
  | @one p v h1 h2 =>
    obtain ⟨c, hc, he⟩ := h2
    exact (h.closed 0 (size t) u (List.getElem?_eq_some_iff.1 h.zero).1 h.zero p c v (by unfold nx; rw [if_pos rfl]; exact h1) he hc).resolve_right id
  | @more p q m v hw h1 h2 ih =>
    obtain ⟨c, hc, he⟩ := h2
    obtain ⟨j, hj⟩ := List.getElem?_of_mem (h.here _ _ ih)
    have := hw.in
    exact (h.closed j p m (List.getElem?_eq_some_iff.1 hj).1 hj q c v (by unfold nx; rw [if_neg (by omega)]; exact h1) he hc).resolve_right id
/-- a new spot -/
theorem bfs_new {spots : List (Nat × Nat)} {seen : Nat → Nat → Bool} {i : Nat} {X Y : Nat → Nat → Nat → Nat → Nat → Prop} (h : Bfs E t u spots seen i X) (hi : i ≤ spots.length) (q v : Nat) (hw : Way E t 0 u q v) (hX : ∀ p m q1 c v1, X p m q1 c v1 → (q1 = q ∧ v1 = v) ∨ Y p m q1 c v1) :
    Bfs E t u (spots ++ [(q, v)]) (upd seen q fun x => seen q x || x == v) i Y := by
  have mono : ∀ q1 x, seen q1 x = true → upd seen q (fun x => seen q x || x == v) q1 x = true := fun q1 x hx => by
    unfold upd
    split
    · rename_i e; subst e; simp [hx]
    · exact hx
  have new : upd seen q (fun x => seen q x || x == v) q v = true := by unfold upd; simp
  have inv : ∀ q1 x, upd seen q (fun x => seen q x || x == v) q1 x = true → seen q1 x = true ∨ (q1 = q ∧ x = v) := fun q1 x hx => by
    unfold upd at hx
    split at hx
    · rename_i e; subst e
      simp only [Bool.or_eq_true, beq_iff_eq] at hx
      exact hx.elim .inl (fun e => .inr ⟨rfl, e⟩)
    · exact .inl hx
  refine ⟨?_, fun q1 x hx => ?_, fun q1 x hx => ?_, fun x hx => ?_, fun j p m hj hs q1 c v1 h1 h2 h3 => ?_⟩
  · rw [List.getElem?_append_left (List.getElem?_eq_some_iff.1 h.zero).1]; exact h.zero
  · rcases inv q1 x hx with e | ⟨rfl, rfl⟩
    · exact h.sound _ _ e
    · exact hw
  · rcases inv q1 x hx with e | ⟨rfl, rfl⟩
    · exact List.mem_append.2 (.inl (h.here _ _ e))
    · simp
  · rcases List.mem_append.1 hx with e | e
    · rcases h.there x e with e | e
      · exact .inl e
      · exact .inr (mono _ _ e)
    · simp only [List.mem_singleton] at e
      subst e
      exact .inr new
  · rw [List.getElem?_append_left (by omega)] at hs
    rcases h.closed j p m hj hs q1 c v1 h1 h2 h3 with e | e
    · exact .inl (mono _ _ e)
    · rcases hX p m q1 c v1 e with ⟨rfl, rfl⟩ | e
      · exact .inl new
      · exact .inr e
theorem bfs_same {spots : List (Nat × Nat)} {seen : Nat → Nat → Bool} {i : Nat} {X Y : Nat → Nat → Nat → Nat → Nat → Prop} (h : Bfs E t u spots seen i X) (hX : ∀ p m q c v, nx t p q = true → E m c v → takes (lab t 0 q) c = true → X p m q c v → seen q v = true ∨ Y p m q c v) : Bfs E t u spots seen i Y :=
  ⟨h.zero, h.sound, h.here, h.there, fun j p m hj hs q c v h1 h2 h3 => (h.closed j p m hj hs q c v h1 h2 h3).elim .inl (hX p m q c v h1 h2 h3)⟩
/-- the next spot is taken -/
theorem bfs_next {spots : List (Nat × Nat)} {seen : Nat → Nat → Bool} {i p m : Nat} (h : Bfs E t u spots seen i (fun _ _ _ _ _ => False)) (hs : spots[i]? = some (p, m)) :
    Bfs E t u spots seen (i + 1) (fun p1 m1 q c v => p1 = p ∧ m1 = m ∧ nx t p q = true ∧ E m c v ∧ takes (lab t 0 q) c = true) :=
  ⟨h.zero, h.sound, h.here, h.there, fun j p1 m1 hj hs1 q c v h1 h2 h3 => by
    by_cases e : j = i
    · subst e
      rw [hs] at hs1
      injection hs1 with e
      injection e with e1 e2
      subst e1 e2
      exact .inr ⟨rfl, rfl, h1, h2, h3⟩
    · exact .inl ((h.closed j p1 m1 (by omega) hs1 q c v h1 h2 h3).resolve_right id)⟩
theorem bfs_start : Bfs E t u [(size t, u)] (fun _ _ => false) 0 (fun _ _ _ _ _ => False) :=
  ⟨rfl, fun _ _ h => by simp at h, fun _ _ h => by simp at h, fun x hx => by simp at hx; exact .inl hx, fun j _ _ h => by omega⟩
/-- to which nodes ways lead -/
theorem bfs_rel {v : Nat} : ((v = u ∧ nul t = true) ∨ ∃ p, p ∈ lasts t 0 ∧ Way E t 0 u p v) ↔ rel E t u v := by
  rw [way_rel t 0 u v]
  constructor
  · rintro (⟨rfl, h⟩ | ⟨p, hp, hw⟩)
    · exact .inl ⟨h, rfl⟩
    · exact .inr ⟨p, hw, (mem_lasts t 0 p).1 hp⟩
  · rintro (⟨h, rfl⟩ | ⟨p, hw, hl⟩)
    · exact .inl ⟨rfl, h⟩
    · exact .inr ⟨p, (mem_lasts t 0 p).2 hl, hw⟩
end Go.Proofs.YtphjbbbnbmafnabGreatDoor.RxM

namespace Go.Proofs.YtphjbbbnbmafnabGreatDoor.RxM
open Rx
/-- all, one behind the other; one of all -/
def cats (l : List Rx) : Rx := l.foldl cat eps
def alts (l : List Rx) : Rx := l.foldl alt void
theorem cats_snoc (l : List Rx) (x : Rx) : cats (l ++ [x]) = cat (cats l) x := by unfold cats; rw [List.foldl_append]; rfl
theorem alts_snoc (l : List Rx) (x : Rx) : alts (l ++ [x]) = alt (alts l) x := by unfold alts; rw [List.foldl_append]; rfl
/-- rows and the pieces of the last row -/
def frm (rows ps : List Rx) : Fr := (alts rows, cats ps.dropLast, ps.getLast?)
theorem snoc_cases (ps : List Rx) : ps = [] ∨ ∃ qs p, ps = qs ++ [p] := by
  rcases List.eq_nil_or_concat ps with e | ⟨qs, p, e⟩
  · exact .inl e
  · exact .inr ⟨qs, p, by simpa using e⟩
theorem frm_snoc (rows qs : List Rx) (p : Rx) : frm rows (qs ++ [p]) = (alts rows, cats qs, some p) := by unfold frm; simp
theorem frm_nil (rows : List Rx) : frm rows [] = (alts rows, eps, none) := rfl
theorem ab_frm (ps : List Rx) : ab (cats ps.dropLast) ps.getLast? = cats ps := by
  rcases snoc_cases ps with rfl | ⟨qs, p, rfl⟩
  · rfl
  · simp [ab, cats_snoc]
theorem fin_frm (rows ps : List Rx) : fin (frm rows ps) = alts (rows ++ [cats ps]) := by
  rw [alts_snoc, ← ab_frm ps]
  rfl
/-- what was read of a text -/
def Got (n : Nat) (q : List Nat) (rows ps : List Rx) : Prop := run n q [init] = some [frm rows ps]
theorem got_nil (n : Nat) : Got n [] [] [] := rfl
theorem Got.done {n : Nat} {q : List Nat} {rows ps : List Rx} (h : Got n q rows ps) : read n q = some (alts (rows ++ [cats ps])) := by
  rw [read_some h, fin_frm]
theorem Got.more {n c : Nat} {q : List Nat} {rows ps rows2 ps2 : List Rx} (h : Got n q rows ps) (hs : step n c [frm rows ps] = some [frm rows2 ps2]) : Got n (q ++ [c]) rows2 ps2 := by
  unfold Got
  rw [run_app, show run n q [init] = _ from h]
  simp only [Option.bind_some]
  rw [run_one, hs]
theorem Got.stop {n c : Nat} {q s : List Nat} {rows ps : List Rx} (h : Got n q rows ps) (hs : step n c [frm rows ps] = none) : read n (q ++ c :: s) = none :=
  read_none (dead_app h (dead_step hs))
theorem Got.bar {n : Nat} {q : List Nat} {rows ps : List Rx} (h : Got n q rows ps) : Got n (q ++ [124]) (rows ++ [cats ps]) [] := h.more (by
  rw [show frm rows ps = (alts rows, cats ps.dropLast, ps.getLast?) from rfl, step124, ab_frm, frm_nil, alts_snoc])
theorem Got.star {n : Nat} {q : List Nat} {rows qs : List Rx} {p : Rx} (h : Got n q rows (qs ++ [p])) : Got n (q ++ [42]) rows (qs ++ [star p]) := h.more (by rw [frm_snoc, frm_snoc, step42])
theorem Got.nostar {n : Nat} {q s : List Nat} {rows : List Rx} (h : Got n q rows []) : read n (q ++ 42 :: s) = none := h.stop (by rw [frm_nil, step42_none])
theorem Got.point {n : Nat} {q : List Nat} {rows ps : List Rx} (h : Got n q rows ps) : Got n (q ++ [46]) rows (ps ++ [sym none]) := h.more (by
  rw [show frm rows ps = (alts rows, cats ps.dropLast, ps.getLast?) from rfl, step46, ab_frm, frm_snoc])
theorem Got.letter {n c : Nat} {q : List Nat} {rows ps : List Rx} (h : Got n q rows ps) (hc : c < n) (hn : n ≤ 26) : Got n (q ++ [97 + c]) rows (ps ++ [sym (some c)]) := h.more (by
  rw [show frm rows ps = (alts rows, cats ps.dropLast, ps.getLast?) from rfl, step_let n c _ _ _ _ hc hn, ab_frm, frm_snoc])
theorem Got.bad {n c : Nat} {q s : List Nat} {rows ps : List Rx} (h : Got n q rows ps) (h1 : c ≠ 124) (h2 : c ≠ 42) (h3 : c ≠ 40) (h5 : c ≠ 46) (h6 : ¬ (97 ≤ c ∧ c < 97 + n)) : read n (q ++ c :: s) = none := h.stop (by
  by_cases h4 : c = 41
  · subst h4; exact step41_none n _
  · exact step_bad n c _ _ _ _ h1 h2 h3 h4 h5 h6)
theorem Got.open_ {n : Nat} {q s : List Nat} {rows ps : List Rx} (h : Got n q rows ps) (hc : cl s 1 = none) : read n (q ++ 40 :: s) = none := by
  refine read_none (dead_app h fun f hf => ?_)
  rw [show frm rows ps = (alts rows, cats ps.dropLast, ps.getLast?) from rfl] at hf
  simp only [run, step40, Option.bind_some] at hf
  exact dead_open hc f hf
/-- what a bracket holds is read by itself -/
theorem Got.bracket {n k : Nat} {q s : List Nat} {rows ps : List Rx} (h : Got n q rows ps) (hc : cl s 1 = some k) : (∀ t, read n (s.take k) = some t → Got n (q ++ 40 :: s.take (k + 1)) rows (ps ++ [t])) ∧ (read n (s.take k) = none → read n (q ++ 40 :: s) = none) := by
  obtain ⟨b, s2, rfl, hk, hd⟩ := cl_found s 0 k hc
  have e1 : (b ++ 41 :: s2).take k = b := by rw [← hk]; simp
  have e2 : (b ++ 41 :: s2).take (k + 1) = b ++ [41] := by rw [← hk, List.take_length_add_append]; rfl
  rw [e1, e2]
  rcases run_bracket (n := n) hd [(alts rows, cats ps, none)] with ⟨h1, h2⟩ | ⟨f, h1, h2⟩
  · refine ⟨fun t ht => ?_, fun _ => ?_⟩
    · unfold read at ht
      rw [h1] at ht
      cases ht
    · refine read_none (dead_app h fun f hf => ?_)
      rw [show frm rows ps = (alts rows, cats ps.dropLast, ps.getLast?) from rfl] at hf
      simp only [run, step40, Option.bind_some, ab_frm] at hf
      rw [run_app, h2] at hf
      cases hf
  · refine ⟨fun t ht => ?_, fun hn => ?_⟩
    · have et : t = fin f := by rw [read_some h1] at ht; injection ht with e; exact e.symm
      unfold Got
      rw [run_app, show run n q [init] = _ from h, show frm rows ps = (alts rows, cats ps.dropLast, ps.getLast?) from rfl]
      simp only [Option.bind_some, run, step40, ab_frm]
      rw [run_app, h2]
      simp only [Option.bind_some]
      rw [run_one, step41, frm_snoc, et]
    · rw [read_some h1] at hn
      cases hn
theorem size_cats_snoc (l : List Rx) (x : Rx) : size (cats (l ++ [x])) = size (cats l) + size x := by rw [cats_snoc]; rfl
/-- no more letters than bytes -/
theorem step_size {n c : Nat} {st st' : List Fr} (h : step n c st = some st') : (st'.map fun f => size (fin f)).sum ≤ (st.map fun f => size (fin f)).sum + 1 := by
  cases st with
  | nil => cases h
  | cons f st =>
    obtain ⟨a, r, p⟩ := f
    unfold step at h
    simp only at h
    split at h
    · injection h with h; subst h; simp [fin, ab, size]
    · split at h
      · cases p with
        | none => cases h
        | some q => injection h with h; subst h; simp [fin, ab, size]
      · split at h
        · injection h with h; subst h; simp [fin, init, ab, size]
        · split at h
          · cases st with
            | nil => cases h
            | cons g st =>
              obtain ⟨a', r', p'⟩ := g
              injection h with h; subst h
              cases p' <;> simp [fin, ab, size] <;> omega
          · split at h
            · injection h with h; subst h; simp [fin, ab, size]; omega
            · split at h
              · injection h with h; subst h; simp [fin, ab, size]; omega
              · cases h
theorem run_size {n : Nat} : ∀ {s : List Nat} {st st' : List Fr}, run n s st = some st' → (st'.map fun f => size (fin f)).sum ≤ (st.map fun f => size (fin f)).sum + s.length
  | [], st, st', h => by injection h with h; subst h; simp
  | c :: s, st, st', h => by
    unfold run at h
    cases e : step n c st with
    | none => rw [e] at h; cases h
    | some x =>
      rw [e] at h
      have h1 := step_size e
      have h2 := run_size (s := s) h
      simp only [List.length_cons]
      omega
theorem read_size {n : Nat} {s : List Nat} {t : Rx} (h : read n s = some t) : size t ≤ s.length := by
  unfold read at h
  split at h
  · rename_i f hf
    injection h with h
    subst h
    have := run_size hf
    simpa [init, fin, ab, size] using this
  · cases h
end Go.Proofs.YtphjbbbnbmafnabGreatDoor.RxM
