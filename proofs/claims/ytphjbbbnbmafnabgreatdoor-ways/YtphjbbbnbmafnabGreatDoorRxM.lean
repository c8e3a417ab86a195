/-
  Expressions: their places (which come first, last, behind one another), how they are read byte by byte, and that the places say where ways lead.
-/
namespace Go.Proofs.YtphjbbbnbmafnabGreatDoor.RxM
/-- an expression -/
inductive Rx where
  | void | eps
  | sym (l : Option Nat)
  | star (t : Rx)
  | cat (a b : Rx)
  | alt (a b : Rx)
open Rx
/-- how many letters and points it has -/
def size : Rx → Nat
  | void => 0 | eps => 0 | sym _ => 1 | star t => size t | cat a b => size a + size b | alt a b => size a + size b
/-- is the empty text one of it? -/
def nul : Rx → Bool
  | void => false | eps => true | sym _ => false | star _ => true | cat a b => nul a && nul b | alt a b => nul a || nul b
/-- the places at which its texts begin, its first place being k -/
def fst : Rx → Nat → Nat → Bool
  | void, _, _ => false | eps, _, _ => false
  | sym _, k, p => p == k
  | star t, k, p => fst t k p
  | cat a b, k, p => fst a k p || (nul a && fst b (k + size a) p)
  | alt a b, k, p => fst a k p || fst b (k + size a) p
def lst : Rx → Nat → Nat → Bool
  | void, _, _ => false | eps, _, _ => false
  | sym _, k, p => p == k
  | star t, k, p => lst t k p
  | cat a b, k, p => lst b (k + size a) p || (nul b && lst a k p)
  | alt a b, k, p => lst a k p || lst b (k + size a) p
/-- may q come behind p? -/
def nxt : Rx → Nat → Nat → Nat → Bool
  | void, _, _, _ => false | eps, _, _, _ => false
  | sym _, _, _, _ => false
  | star t, k, p, q => nxt t k p q || (lst t k p && fst t k q)
  | cat a b, k, p, q => nxt a k p q || nxt b (k + size a) p q || (lst a k p && fst b (k + size a) q)
  | alt a b, k, p, q => nxt a k p q || nxt b (k + size a) p q
/-- the labels of its places: none: any -/
def labs : Rx → List (Option Nat)
  | void => [] | eps => [] | sym l => [l] | star t => labs t | cat a b => labs a ++ labs b | alt a b => labs a ++ labs b
theorem labs_len : ∀ t, (labs t).length = size t
  | void => rfl | eps => rfl | sym _ => rfl | star t => labs_len t
  | cat a b => by simp [labs, size, labs_len a, labs_len b]
  | alt a b => by simp [labs, size, labs_len a, labs_len b]
theorem fst_in : ∀ (t : Rx) (k p : Nat), fst t k p = true → k ≤ p ∧ p < k + size t
  | void, _, _, h => by simp [fst] at h
  | eps, _, _, h => by simp [fst] at h
  | sym _, k, p, h => by simp [fst] at h; simp [size]; omega
  | star t, k, p, h => fst_in t k p h
  | cat a b, k, p, h => by
    simp only [fst, Bool.or_eq_true, Bool.and_eq_true] at h
    simp only [size]
    rcases h with h | ⟨_, h⟩
    · have := fst_in a k p h; omega
    · have := fst_in b _ p h; omega
  | alt a b, k, p, h => by
    simp only [fst, Bool.or_eq_true] at h
    simp only [size]
    rcases h with h | h
    · have := fst_in a k p h; omega
    · have := fst_in b _ p h; omega
theorem lst_in : ∀ (t : Rx) (k p : Nat), lst t k p = true → k ≤ p ∧ p < k + size t
  | void, _, _, h => by simp [lst] at h
  | eps, _, _, h => by simp [lst] at h
  | sym _, k, p, h => by simp [lst] at h; simp [size]; omega
  | star t, k, p, h => lst_in t k p h
  | cat a b, k, p, h => by
    simp only [lst, Bool.or_eq_true, Bool.and_eq_true] at h
    simp only [size]
    rcases h with h | ⟨_, h⟩
    · have := lst_in b _ p h; omega
    · have := lst_in a k p h; omega
  | alt a b, k, p, h => by
    simp only [lst, Bool.or_eq_true] at h
    simp only [size]
    rcases h with h | h
    · have := lst_in a k p h; omega
    · have := lst_in b _ p h; omega
theorem nxt_in : ∀ (t : Rx) (k p q : Nat), nxt t k p q = true → (k ≤ p ∧ p < k + size t) ∧ (k ≤ q ∧ q < k + size t)
  | void, _, _, _, h => by simp [nxt] at h
  | eps, _, _, _, h => by simp [nxt] at h
  | sym _, k, p, _, h => by simp [nxt] at h
  | star t, k, p, q, h => by
    simp only [nxt, Bool.or_eq_true, Bool.and_eq_true] at h
    simp only [size]
    rcases h with h | ⟨h1, h2⟩
    · exact nxt_in t k p q h
    · exact ⟨lst_in t k p h1, fst_in t k q h2⟩
  | cat a b, k, p, q, h => by
    simp only [nxt, Bool.or_eq_true, Bool.and_eq_true] at h
    simp only [size]
    rcases h with (h | h) | ⟨h1, h2⟩
    · have := nxt_in a k p q h; omega
    · have := nxt_in b _ p q h; omega
    · have := lst_in a k p h1; have := fst_in b _ q h2; omega
  | alt a b, k, p, q, h => by
    simp only [nxt, Bool.or_eq_true] at h
    simp only [size]
    rcases h with h | h
    · have := nxt_in a k p q h; omega
    · have := nxt_in b _ p q h; omega
/-- moved by d places -/
theorem fst_mv : ∀ (t : Rx) (k d p : Nat), fst t (k + d) (p + d) = fst t k p
  | void, _, _, _ => rfl | eps, _, _, _ => rfl
  | sym _, k, d, p => by simp only [fst]; exact Bool.eq_iff_iff.2 (by simp)
  | star t, k, d, p => fst_mv t k d p
  | cat a b, k, d, p => by simp only [fst]; rw [fst_mv a, Nat.add_right_comm, fst_mv b]
  | alt a b, k, d, p => by simp only [fst]; rw [fst_mv a, Nat.add_right_comm, fst_mv b]
theorem lst_mv : ∀ (t : Rx) (k d p : Nat), lst t (k + d) (p + d) = lst t k p
  | void, _, _, _ => rfl | eps, _, _, _ => rfl
  | sym _, k, d, p => by simp only [lst]; exact Bool.eq_iff_iff.2 (by simp)
  | star t, k, d, p => lst_mv t k d p
  | cat a b, k, d, p => by simp only [lst]; rw [lst_mv a, Nat.add_right_comm, lst_mv b]
  | alt a b, k, d, p => by simp only [lst]; rw [lst_mv a, Nat.add_right_comm, lst_mv b]
theorem nxt_mv : ∀ (t : Rx) (k d p q : Nat), nxt t (k + d) (p + d) (q + d) = nxt t k p q
  | void, _, _, _, _ => rfl | eps, _, _, _, _ => rfl
  | sym _, k, d, p, _ => by simp [nxt]
  | star t, k, d, p, q => by simp only [nxt]; rw [nxt_mv t, lst_mv, fst_mv]
  | cat a b, k, d, p, q => by simp only [nxt]; rw [nxt_mv a, Nat.add_right_comm, nxt_mv b, lst_mv, fst_mv]
  | alt a b, k, d, p, q => by simp only [nxt]; rw [nxt_mv a, Nat.add_right_comm, nxt_mv b]

/-- what was read of one bracket: the rows, the row, its last piece -/
abbrev Fr := Rx × Rx × Option Rx
def ab (r : Rx) : Option Rx → Rx | none => r | some p => cat r p
def fin (f : Fr) : Rx := alt f.1 (ab f.2.1 f.2.2)
def init : Fr := (void, eps, none)
/-- one byte more -/
def step (n : Nat) (c : Nat) : List Fr → Option (List Fr)
  | [] => none
  | (a, r, p) :: st =>
    if c = 124 then some ((alt a (ab r p), eps, none) :: st)
    else if c = 42 then match p with | none => none | some q => some ((a, r, some (star q)) :: st)
    else if c = 40 then some (init :: (a, ab r p, none) :: st)
    else if c = 41 then match st with | [] => none | (a', r', _) :: st' => some ((a', r', some (fin (a, r, p))) :: st')
    else if c = 46 then some ((a, ab r p, some (sym none)) :: st)
    else if 97 ≤ c ∧ c < 97 + n then some ((a, ab r p, some (sym (some (c - 97)))) :: st)
    else none
def run (n : Nat) : List Nat → List Fr → Option (List Fr)
  | [], st => some st
  | c :: s, st => (step n c st).bind (run n s)
theorem run_app (n : Nat) : ∀ (s t : List Nat) (st : List Fr), run n (s ++ t) st = (run n s st).bind (run n t)
  | [], t, st => rfl
  | c :: s, t, st => by
    simp only [List.cons_append, run]
    cases step n c st with
    | none => rfl
    | some x => exact run_app n s t x
theorem step_frame {n c : Nat} {st st' : List Fr} (h : step n c st = some st') (b : List Fr) : step n c (st ++ b) = some (st' ++ b) := by
  match st with
  | [] => simp [step] at h
  | (a, r, p) :: st =>
    unfold step at h ⊢
    simp only [List.cons_append]
    simp only at h
    split at h
    · rename_i h1; rw [if_pos h1]; injection h with h; subst h; rfl
    · rename_i h1; rw [if_neg h1]
      split at h
      · rename_i h2; rw [if_pos h2]
        cases p with
        | none => simp at h
        | some q => injection h with h; subst h; rfl
      · rename_i h2; rw [if_neg h2]
        split at h
        · rename_i h3; rw [if_pos h3]; injection h with h; subst h; rfl
        · rename_i h3; rw [if_neg h3]
          split at h
          · rename_i h4; rw [if_pos h4]
            match st with
            | [] => simp at h
            | (a', r', p') :: st1 => injection h with h; subst h; rfl
          · rename_i h4; rw [if_neg h4]
            split at h
            · rename_i h5; rw [if_pos h5]; injection h with h; subst h; rfl
            · rename_i h5; rw [if_neg h5]
              split at h
              · rename_i h6; rw [if_pos h6]; injection h with h; subst h; rfl
              · simp at h
theorem run_frame {n : Nat} : ∀ {s : List Nat} {st st' : List Fr}, run n s st = some st' → ∀ b, run n s (st ++ b) = some (st' ++ b)
  | [], st, st', h, b => by simp only [run, Option.some.injEq] at h ⊢; rw [h]
  | c :: s, st, st', h, b => by
    simp only [run] at h ⊢
    cases h1 : step n c st with
    | none => rw [h1] at h; simp at h
    | some x =>
      rw [h1] at h
      rw [step_frame h1 b]
      exact run_frame (s := s) h b
/-- the expression that a text is, if it is one -/
def read (n : Nat) (s : List Nat) : Option Rx :=
  match run n s [init] with
  | some [f] => some (fin f)
  | _ => none
/-- no expression comes of it -/
def Dead (n : Nat) (s : List Nat) (st : List Fr) : Prop := ∀ f, run n s st ≠ some [f]
theorem dead_app {n : Nat} {s t : List Nat} {st st' : List Fr} (h : run n s st = some st') (hd : Dead n t st') : Dead n (s ++ t) st := fun f hf => by
  rw [run_app, h] at hf
  exact hd f hf
theorem dead_nil {n : Nat} {f g : Fr} {st : List Fr} : Dead n [] (f :: g :: st) := fun x hx => by simp [run] at hx
theorem dead_step {n c : Nat} {s : List Nat} {st : List Fr} (h : step n c st = none) : Dead n (c :: s) st := fun x hx => by
  simp only [run, h] at hx
  simp at hx
theorem read_none {n : Nat} {s : List Nat} (h : Dead n s [init]) : read n s = none := by
  unfold read
  split
  · rename_i f hf; exact absurd hf (h f)
  · rfl
theorem read_some {n : Nat} {s : List Nat} {f : Fr} (h : run n s [init] = some [f]) : read n s = some (fin f) := by
  unfold read; rw [h]
/-- how deep a text in brackets leads, from a depth; none: it closes more than were opened -/
def dp : List Nat → Nat → Option Nat
  | [], d => some d
  | c :: s, d => if c = 40 then dp s (d + 1) else if c = 41 then (if d = 0 then none else dp s (d - 1)) else dp s d
/-- where the bracket closes: reckoned from the text's first byte on, d of them being open -/
def cl : List Nat → Nat → Option Nat
  | [], _ => none
  | c :: s, d => if c = 41 then (if d = 1 then some 0 else (cl s (d - 1)).map (· + 1)) else (cl s (if c = 40 then d + 1 else d)).map (· + 1)
theorem cl_found : ∀ (s : List Nat) (d k : Nat), cl s (d + 1) = some k → ∃ q s2, s = q ++ 41 :: s2 ∧ q.length = k ∧ dp q d = some 0
  | [], d, k, h => by simp [cl] at h
  | c :: s, d, k, h => by
    unfold cl at h
    split at h
    · rename_i hc
      split at h
      · rename_i hd
        injection h with h
        exact ⟨[], s, by rw [hc]; rfl, h, by rw [show d = 0 from by omega]; rfl⟩
      · rename_i hd
        cases h1 : cl s (d + 1 - 1) with
        | none => rw [h1] at h; simp at h
        | some k1 =>
          rw [h1] at h
          simp only [Option.map_some, Option.some.injEq] at h
          obtain ⟨d1, rfl⟩ : ∃ d1, d = d1 + 1 := ⟨d - 1, by omega⟩
          rw [Nat.add_sub_cancel] at h1
          obtain ⟨q, s2, rfl, hl, hq⟩ := cl_found s d1 k1 h1
          refine ⟨c :: q, s2, rfl, by simp [hl, h], ?_⟩
          unfold dp
          rw [if_neg (by omega), if_pos hc, if_neg (by omega)]
          exact hq
    · rename_i hc
      split at h
      · rename_i hd
        cases h1 : cl s (d + 1 + 1) with
        | none => rw [h1] at h; simp at h
        | some k1 =>
          rw [h1] at h
          simp only [Option.map_some, Option.some.injEq] at h
          obtain ⟨q, s2, rfl, hl, hq⟩ := cl_found s (d + 1) k1 h1
          refine ⟨c :: q, s2, rfl, by simp [hl, h], ?_⟩
          unfold dp
          rw [if_pos hd]
          exact hq
      · rename_i hd
        cases h1 : cl s (d + 1) with
        | none => rw [h1] at h; simp at h
        | some k1 =>
          rw [h1] at h
          simp only [Option.map_some, Option.some.injEq] at h
          obtain ⟨q, s2, rfl, hl, hq⟩ := cl_found s d k1 h1
          refine ⟨c :: q, s2, rfl, by simp [hl, h], ?_⟩
          unfold dp
          rw [if_neg hd, if_neg hc]
          exact hq
/-- how high the rows of brackets stand behind a byte -/
theorem step_len {n c : Nat} {st st' : List Fr} (h : step n c st = some st') : st'.length = if c = 40 then st.length + 1 else if c = 41 then st.length - 1 else st.length := by
  match st with
  | [] => simp [step] at h
  | (a, r, p) :: st =>
    unfold step at h
    simp only at h
    split at h
    · rename_i h1; injection h with h; subst h; rw [if_neg (by omega), if_neg (by omega)]; rfl
    · split at h
      · rename_i h1 h2
        cases p with
        | none => simp at h
        | some q => injection h with h; subst h; rw [if_neg (by omega), if_neg (by omega)]; rfl
      · split at h
        · rename_i h3; injection h with h; subst h; rw [if_pos h3]; rfl
        · split at h
          · rename_i h3 h4
            rw [if_neg h3, if_pos h4]
            match st with
            | [] => simp at h
            | (a', r', p') :: st1 => injection h with h; subst h; rfl
          · rename_i h3 h4
            rw [if_neg h3, if_neg h4]
            split at h
            · injection h with h; subst h; rfl
            · split at h
              · injection h with h; subst h; rfl
              · simp at h
theorem step_ne {n c : Nat} {st st' : List Fr} (h : step n c st = some st') : st' ≠ [] := by
  match st with
  | [] => simp [step] at h
  | (a, r, p) :: st =>
    unfold step at h
    simp only at h
    split at h
    · injection h with h; subst h; simp
    · split at h
      · cases p with
        | none => simp at h
        | some q => injection h with h; subst h; simp
      · split at h
        · injection h with h; subst h; simp
        · split at h
          · match st with
            | [] => simp at h
            | (a', r', p') :: st1 => injection h with h; subst h; simp
          · split at h
            · injection h with h; subst h; simp
            · split at h
              · injection h with h; subst h; simp
              · simp at h
/-- where a byte is refused, it is refused over more brackets too, but for a closing one -/
theorem step_none {n c : Nat} {st : List Fr} (h : step n c st = none) (hst : st ≠ []) (hc : c ≠ 41 ∨ 2 ≤ st.length) (b : List Fr) : step n c (st ++ b) = none := by
  match st with
  | [] => exact absurd rfl hst
  | (a, r, p) :: st =>
    unfold step at h ⊢
    simp only [List.cons_append]
    simp only at h
    split at h
    · simp at h
    · rename_i h1; rw [if_neg h1]
      split at h
      · rename_i h2; rw [if_pos h2]
        cases p with
        | none => rfl
        | some q => simp at h
      · rename_i h2; rw [if_neg h2]
        split at h
        · simp at h
        · rename_i h3; rw [if_neg h3]
          split at h
          · rename_i h4
            match st with
            | [] => simp at hc; exact absurd h4 hc
            | (a', r', p') :: st1 => simp at h
          · rename_i h4; rw [if_neg h4]
            split at h
            · simp at h
            · rename_i h5; rw [if_neg h5]
              split at h
              · simp at h
              · rename_i h6; rw [if_neg h6]
theorem run_deep {n : Nat} : ∀ (s : List Nat) (d d' : Nat) (st : List Fr), dp s d = some d' → st.length = d + 1 → (∀ b, run n s (st ++ b) = (run n s st).map (· ++ b)) ∧ (∀ st', run n s st = some st' → st'.length = d' + 1)
  | [], d, d', st, h, hl => ⟨fun b => rfl, fun st' h' => by simp only [run, Option.some.injEq] at h'; simp only [dp, Option.some.injEq] at h; rw [← h', hl, h]⟩
  | c :: s, d, d', st, h, hl => by
    have hne : st ≠ [] := by intro e; rw [e] at hl; simp at hl
    cases h1 : step n c st with
    | none =>
      refine ⟨fun b => ?_, fun st' h' => by simp only [run, h1] at h'; simp at h'⟩
      simp only [run, h1]
      rw [step_none h1 hne ?_ b]
      · rfl
      · by_cases hc : c = 41
        · right
          unfold dp at h
          rw [if_neg (by omega), if_pos hc] at h
          split at h
          · simp at h
          · omega
        · exact .inl hc
    | some x =>
      have hx := step_len h1
      have hd : ∃ dx, dp s dx = some d' ∧ x.length = dx + 1 := by
        unfold dp at h
        split at h
        · rename_i hc; exact ⟨d + 1, h, by rw [hx, if_pos hc]; omega⟩
        · rename_i hc
          split at h
          · rename_i hc2
            split at h
            · simp at h
            · exact ⟨d - 1, h, by rw [hx, if_neg hc, if_pos hc2]; omega⟩
          · rename_i hc2; exact ⟨d, h, by rw [hx, if_neg hc, if_neg hc2]; omega⟩
      obtain ⟨dx, hd1, hd2⟩ := hd
      obtain ⟨i1, i2⟩ := run_deep s dx d' x hd1 hd2
      refine ⟨fun b => ?_, fun st' h' => ?_⟩
      · simp only [run, h1, step_frame h1 b, Option.bind_some]
        exact i1 b
      · simp only [run, h1, Option.bind_some] at h'
        exact i2 st' h'
/-- what stands in a bracket that closes -/
theorem run_bracket {n : Nat} {q : List Nat} (h : dp q 0 = some 0) (b : List Fr) : (run n q [init] = none ∧ run n q (init :: b) = none) ∨ ∃ f, run n q [init] = some [f] ∧ run n q (init :: b) = some (f :: b) := by
  obtain ⟨i1, i2⟩ := run_deep (n := n) q 0 0 [init] h rfl
  have e := i1 b
  cases h1 : run n q [init] with
  | none => rw [h1] at e; exact .inl ⟨rfl, e⟩
  | some st' =>
    have hl := i2 st' h1
    match st' with
    | [] => simp at hl
    | [f] => rw [h1] at e; exact .inr ⟨f, rfl, e⟩
    | _ :: _ :: _ => simp at hl
/-- a bracket that doesn't close -/
theorem run_open {n : Nat} : ∀ (s : List Nat) (d : Nat) (st st' : List Fr), cl s (d + 1) = none → st.length = d + 2 → run n s st = some st' → 2 ≤ st'.length
  | [], d, st, st', _, hl, h => by simp only [run, Option.some.injEq] at h; rw [← h]; omega
  | c :: s, d, st, st', hc, hl, h => by
    cases h1 : step n c st with
    | none => simp only [run, h1] at h; simp at h
    | some x =>
      have hx := step_len h1
      simp only [run, h1, Option.bind_some] at h
      unfold cl at hc
      split at hc
      · rename_i h41
        split at hc
        · simp at hc
        · rename_i hd
          rw [Option.map_eq_none_iff] at hc
          obtain ⟨d1, rfl⟩ : ∃ d1, d = d1 + 1 := ⟨d - 1, by omega⟩
          rw [if_neg (by omega), if_pos h41] at hx
          exact run_open s d1 x st' hc (by omega) h
      · rename_i h41
        rw [Option.map_eq_none_iff] at hc
        split at hc
        · rename_i h40
          rw [if_pos h40] at hx
          exact run_open s (d + 1) x st' hc (by omega) h
        · rename_i h40
          rw [if_neg h40, if_neg h41] at hx
          exact run_open s d x st' hc (by omega) h
theorem dead_open {n : Nat} {s : List Nat} {g : Fr} (h : cl s 1 = none) : Dead n s [init, g] := fun f hf => by
  have := run_open s 0 [init, g] [f] h rfl hf
  simp at this
/-- does a place take a label? -/
def takes (l : Option Nat) (c : Nat) : Bool := match l with | none => true | some a => a == c
section
variable (E : Nat → Nat → Nat → Prop)
/-- an edge whose label a place takes -/
def Go (l : Option Nat) (u v : Nat) : Prop := ∃ c, takes l c = true ∧ E u c v
/-- zero or more times -/
inductive Many (R : Nat → Nat → Prop) : Nat → Nat → Prop
  | nil (u : Nat) : Many R u u
  | snoc {u m v : Nat} : Many R u m → R m v → Many R u v
/-- where ways lead whose labels are a text of the expression -/
def rel : Rx → Nat → Nat → Prop
  | void, _, _ => False
  | eps, u, v => u = v
  | sym l, u, v => Go E l u v
  | star t, u, v => Many (rel t) u v
  | cat a b, u, v => ∃ m, rel a u m ∧ rel b m v
  | alt a b, u, v => rel a u v ∨ rel b u v
/-- the label of a place -/
def lab (t : Rx) (k p : Nat) : Option Nat := (labs t).getD (p - k) none
/-- ways through the places -/
inductive Way (t : Rx) (k u : Nat) : Nat → Nat → Prop
  | one {p v : Nat} : fst t k p = true → Go E (lab t k p) u v → Way t k u p v
  | more {p q m v : Nat} : Way t k u p m → nxt t k p q = true → Go E (lab t k q) m v → Way t k u q v
end
variable {E : Nat → Nat → Nat → Prop}
theorem Many.trans {R : Nat → Nat → Prop} {u m v : Nat} (h : Many R u m) (h2 : Many R m v) : Many R u v := by
  induction h2 with
  | nil => exact h
  | snoc _ hr ih => exact .snoc ih hr
theorem Many.cons {R : Nat → Nat → Prop} {u m v : Nat} (h : R u m) (h2 : Many R m v) : Many R u v := Many.trans (.snoc (.nil u) h) h2
theorem Way.in {t : Rx} {k u p v : Nat} (h : Way E t k u p v) : k ≤ p ∧ p < k + size t := by
  cases h with
  | one h _ => exact fst_in _ _ _ h
  | more _ h _ => exact (nxt_in _ _ _ _ h).2
theorem lab_l {a b : Rx} {k p : Nat} (h : k ≤ p ∧ p < k + size a) : (labs a ++ labs b).getD (p - k) none = lab a k p := by
  unfold lab
  rw [List.getD_eq_getElem?_getD, List.getD_eq_getElem?_getD, List.getElem?_append_left (by rw [labs_len]; omega)]
theorem lab_r {a b : Rx} {k p : Nat} (h : k + size a ≤ p) : (labs a ++ labs b).getD (p - k) none = lab b (k + size a) p := by
  unfold lab
  rw [List.getD_eq_getElem?_getD, List.getD_eq_getElem?_getD, List.getElem?_append_right (by rw [labs_len]; omega), labs_len, Nat.sub_sub]
/-- the places say where ways lead -/
theorem way_rel : ∀ (t : Rx) (k u v : Nat), rel E t u v ↔ (nul t = true ∧ u = v) ∨ ∃ p, Way E t k u p v ∧ lst t k p = true
  | void, k, u, v => by
    constructor
    · intro h; exact absurd h id
    · rintro (⟨h, _⟩ | ⟨p, _, h⟩)
      · simp [nul] at h
      · simp [lst] at h
  | eps, k, u, v => by
    constructor
    · intro h; exact .inl ⟨rfl, h⟩
    · rintro (⟨_, h⟩ | ⟨p, _, h⟩)
      · exact h
      · simp [lst] at h
  | sym l, k, u, v => by
    constructor
    · intro h; exact .inr ⟨k, .one (by simp [fst]) (by have h' : Go E l u v := h; simpa [lab, labs] using h'), by simp [lst]⟩
    · rintro (⟨h, _⟩ | ⟨p, hw, hl⟩)
      · simp [nul] at h
      · cases hw with
        | one h1 h2 =>
          have := fst_in _ _ _ h1
          simp only [size] at this
          obtain rfl : p = k := by omega
          have h3 : Go E l u v := by simpa [lab, labs] using h2
          exact h3
        | more _ h _ => simp [nxt] at h
  | star t, k, u, v => by
    -- ways through a star
    have A : ∀ {m p x}, Many (rel E t) u m → Way E t k m p x → Way E (star t) k u p x := by
      intro m p x hm hw
      induction hm generalizing p x with
      | nil =>
        induction hw with
        | one h1 h2 => exact .one h1 h2
        | more _ h1 h2 ih => exact .more ih (by simp only [nxt, h1, Bool.true_or]) h2
      | @snoc m1 _ hm1 hr ih =>
        rcases (way_rel t k _ _).1 hr with ⟨_, rfl⟩ | ⟨p1, hw1, hl1⟩
        · exact ih hw
        · have h1 := ih hw1
          induction hw with
          | one h2 h3 => exact .more h1 (by simp only [nxt, hl1, h2, Bool.true_and, Bool.or_true]) h3
          | more _ h2 h3 ih2 => exact .more ih2 (by simp only [nxt, h2, Bool.true_or]) h3
    have B : ∀ {p x}, Way E (star t) k u p x → ∃ m, Many (rel E t) u m ∧ Way E t k m p x := by
      intro p x hw
      induction hw with
      | one h1 h2 => exact ⟨u, .nil u, .one h1 h2⟩
      | @more p q m1 v1 _ h1 h2 ih =>
        obtain ⟨m, hm, hw⟩ := ih
        simp only [nxt, Bool.or_eq_true, Bool.and_eq_true] at h1
        rcases h1 with h1 | ⟨h3, h4⟩
        · exact ⟨m, hm, .more hw h1 h2⟩
        · exact ⟨m1, .snoc hm ((way_rel t k _ _).2 (.inr ⟨p, hw, h3⟩)), .one h4 h2⟩
    constructor
    · intro h
      have h' : Many (rel E t) u v := h
      clear h
      cases h' with
      | nil => exact .inl ⟨rfl, rfl⟩
      | @snoc m _ hm hr =>
        induction hm with
        | nil =>
          rcases (way_rel t k _ _).1 hr with ⟨_, rfl⟩ | ⟨p, hw, hl⟩
          · exact .inl ⟨rfl, rfl⟩
          · exact .inr ⟨p, A (.nil u) hw, hl⟩
        | @snoc m2 _ hm2 hr2 ih =>
          rcases (way_rel t k _ _).1 hr with ⟨_, rfl⟩ | ⟨p, hw, hl⟩
          · exact ih hr2
          · exact .inr ⟨p, A (.snoc hm2 hr2) hw, hl⟩
    · rintro (⟨_, rfl⟩ | ⟨p, hw, hl⟩)
      · exact Many.nil u
      · obtain ⟨m, hm, hw2⟩ := B hw
        exact Many.snoc hm ((way_rel t k _ _).2 (.inr ⟨p, hw2, hl⟩))
  | cat a b, k, u, v => by
    have A : ∀ {p x}, Way E a k u p x → Way E (cat a b) k u p x := by
      intro p x hw
      induction hw with
      | one h1 h2 => exact .one (by simp only [fst, h1, Bool.true_or]) (by unfold lab; simp only [labs]; rw [lab_l (fst_in _ _ _ h1)]; exact h2)
      | more _ h1 h2 ih => exact .more ih (by simp only [nxt, h1, Bool.true_or]) (by unfold lab; simp only [labs]; rw [lab_l (nxt_in _ _ _ _ h1).2]; exact h2)
    have B : ∀ {m p x}, rel E a u m → Way E b (k + size a) m p x → Way E (cat a b) k u p x := by
      intro m p x hr hw
      induction hw with
      | @one p1' v1' h1 h2 =>
        have h2' : Go E (lab (cat a b) k p1') m v1' := by unfold lab; simp only [labs]; rw [lab_r (fst_in _ _ _ h1).1]; exact h2
        rcases (way_rel a k _ _).1 hr with ⟨h3, rfl⟩ | ⟨p1, hw1, hl1⟩
        · exact .one (by simp only [fst, h3, h1, Bool.true_and, Bool.or_true]) h2'
        · exact .more (A hw1) (by simp only [nxt, hl1, h1, Bool.true_and, Bool.or_true]) h2'
      | more _ h1 h2 ih => exact .more ih (by simp only [nxt, h1, Bool.true_or, Bool.or_true]) (by unfold lab; simp only [labs]; rw [lab_r (nxt_in _ _ _ _ h1).2.1]; exact h2)
    have C : ∀ {p x}, Way E (cat a b) k u p x → (p < k + size a → Way E a k u p x) ∧ (k + size a ≤ p → ∃ m, rel E a u m ∧ Way E b (k + size a) m p x) := by
      intro p x hw
      induction hw with
      | @one p v1 h1 h2 =>
        unfold lab at h2
        simp only [labs] at h2
        simp only [fst, Bool.or_eq_true, Bool.and_eq_true] at h1
        rcases h1 with h1 | ⟨h3, h1⟩
        · have hi := fst_in _ _ _ h1
          rw [lab_l hi] at h2
          exact ⟨fun _ => .one h1 h2, fun h => by omega⟩
        · have hi := fst_in _ _ _ h1
          rw [lab_r hi.1] at h2
          exact ⟨fun h => by omega, fun _ => ⟨u, (way_rel a k _ _).2 (.inl ⟨h3, rfl⟩), .one h1 h2⟩⟩
      | @more p q m1 v1 _ h1 h2 ih =>
        unfold lab at h2
        simp only [labs] at h2
        simp only [nxt, Bool.or_eq_true, Bool.and_eq_true] at h1
        rcases h1 with (h1 | h1) | ⟨h3, h4⟩
        · have hi := nxt_in _ _ _ _ h1
          rw [lab_l hi.2] at h2
          exact ⟨fun _ => .more (ih.1 hi.1.2) h1 h2, fun h => by omega⟩
        · have hi := nxt_in _ _ _ _ h1
          rw [lab_r hi.2.1] at h2
          obtain ⟨m, hm, hw2⟩ := ih.2 hi.1.1
          exact ⟨fun h => by omega, fun _ => ⟨m, hm, .more hw2 h1 h2⟩⟩
        · have hi := lst_in _ _ _ h3
          have hj := fst_in _ _ _ h4
          rw [lab_r hj.1] at h2
          exact ⟨fun h => by omega, fun _ => ⟨m1, (way_rel a k _ _).2 (.inr ⟨p, ih.1 hi.2, h3⟩), .one h4 h2⟩⟩
    constructor
    · rintro ⟨m, ha, hb⟩
      rcases (way_rel b (k + size a) _ _).1 hb with ⟨h1, rfl⟩ | ⟨p, hw, hl⟩
      · rcases (way_rel a k _ _).1 ha with ⟨h2, rfl⟩ | ⟨p, hw, hl⟩
        · exact .inl ⟨by simp only [nul, h1, h2, Bool.and_true], rfl⟩
        · exact .inr ⟨p, A hw, by simp only [lst, h1, hl, Bool.true_and, Bool.or_true]⟩
      · exact .inr ⟨p, B ha hw, by simp only [lst, hl, Bool.true_or]⟩
    · rintro (⟨h1, rfl⟩ | ⟨p, hw, hl⟩)
      · simp only [nul, Bool.and_eq_true] at h1
        exact ⟨u, (way_rel a k _ _).2 (.inl ⟨h1.1, rfl⟩), (way_rel b k _ _).2 (.inl ⟨h1.2, rfl⟩)⟩
      · simp only [lst, Bool.or_eq_true, Bool.and_eq_true] at hl
        rcases hl with hl | ⟨hn, hl⟩
        · obtain ⟨m, hm, hw2⟩ := (C hw).2 (lst_in _ _ _ hl).1
          exact ⟨m, hm, (way_rel b (k + size a) _ _).2 (.inr ⟨p, hw2, hl⟩)⟩
        · exact ⟨v, (way_rel a k _ _).2 (.inr ⟨p, (C hw).1 (lst_in _ _ _ hl).2, hl⟩), (way_rel b k _ _).2 (.inl ⟨hn, rfl⟩)⟩
  | alt a b, k, u, v => by
    have A : ∀ {p x}, Way E a k u p x → Way E (alt a b) k u p x := by
      intro p x hw
      induction hw with
      | one h1 h2 => exact .one (by simp only [fst, h1, Bool.true_or]) (by unfold lab; simp only [labs]; rw [lab_l (fst_in _ _ _ h1)]; exact h2)
      | more _ h1 h2 ih => exact .more ih (by simp only [nxt, h1, Bool.true_or]) (by unfold lab; simp only [labs]; rw [lab_l (nxt_in _ _ _ _ h1).2]; exact h2)
    have B : ∀ {p x}, Way E b (k + size a) u p x → Way E (alt a b) k u p x := by
      intro p x hw
      induction hw with
      | one h1 h2 => exact .one (by simp only [fst, h1, Bool.or_true]) (by unfold lab; simp only [labs]; rw [lab_r (fst_in _ _ _ h1).1]; exact h2)
      | more _ h1 h2 ih => exact .more ih (by simp only [nxt, h1, Bool.or_true]) (by unfold lab; simp only [labs]; rw [lab_r (nxt_in _ _ _ _ h1).2.1]; exact h2)
    have C : ∀ {p x}, Way E (alt a b) k u p x → (p < k + size a → Way E a k u p x) ∧ (k + size a ≤ p → Way E b (k + size a) u p x) := by
      intro p x hw
      induction hw with
      | @one p v1 h1 h2 =>
        unfold lab at h2
        simp only [labs] at h2
        simp only [fst, Bool.or_eq_true] at h1
        rcases h1 with h1 | h1
        · have hi := fst_in _ _ _ h1
          rw [lab_l hi] at h2
          exact ⟨fun _ => .one h1 h2, fun h => by omega⟩
        · have hi := fst_in _ _ _ h1
          rw [lab_r hi.1] at h2
          exact ⟨fun h => by omega, fun _ => .one h1 h2⟩
      | @more p q m1 v1 _ h1 h2 ih =>
        unfold lab at h2
        simp only [labs] at h2
        simp only [nxt, Bool.or_eq_true] at h1
        rcases h1 with h1 | h1
        · have hi := nxt_in _ _ _ _ h1
          rw [lab_l hi.2] at h2
          exact ⟨fun _ => .more (ih.1 hi.1.2) h1 h2, fun h => by omega⟩
        · have hi := nxt_in _ _ _ _ h1
          rw [lab_r hi.2.1] at h2
          exact ⟨fun h => by omega, fun _ => .more (ih.2 hi.1.1) h1 h2⟩
    constructor
    · rintro (h | h)
      · rcases (way_rel a k _ _).1 h with ⟨h1, rfl⟩ | ⟨p, hw, hl⟩
        · exact .inl ⟨by simp only [nul, h1, Bool.true_or], rfl⟩
        · exact .inr ⟨p, A hw, by simp only [lst, hl, Bool.true_or]⟩
      · rcases (way_rel b (k + size a) _ _).1 h with ⟨h1, rfl⟩ | ⟨p, hw, hl⟩
        · exact .inl ⟨by simp only [nul, h1, Bool.or_true], rfl⟩
        · exact .inr ⟨p, B hw, by simp only [lst, hl, Bool.or_true]⟩
    · rintro (⟨h1, rfl⟩ | ⟨p, hw, hl⟩)
      · simp only [nul, Bool.or_eq_true] at h1
        rcases h1 with h1 | h1
        · exact .inl ((way_rel a k _ _).2 (.inl ⟨h1, rfl⟩))
        · exact .inr ((way_rel b k _ _).2 (.inl ⟨h1, rfl⟩))
      · simp only [lst, Bool.or_eq_true] at hl
        rcases hl with hl | hl
        · exact .inl ((way_rel a k _ _).2 (.inr ⟨p, (C hw).1 (lst_in _ _ _ hl).2, hl⟩))
        · exact .inr ((way_rel b (k + size a) _ _).2 (.inr ⟨p, (C hw).2 (lst_in _ _ _ hl).1, hl⟩))
end Go.Proofs.YtphjbbbnbmafnabGreatDoor.RxM
