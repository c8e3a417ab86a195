/-
  How an expression is read from the front, row by row, and when nothing can come of it any more: without the program.
  Sets of places in words of 64 bits: their places in order, the lowest bit first: without the program.
  All ways at once: what is seen, what is not gone on from yet, which nodes wait; that it ends, and what it finds: without the program.
  The document's way of finding where ways lead, without the program: letters with which texts begin and end, spots, each once.
-/
import Derived.Test.YtphjbbbnbmafnabGreatDoorRxM
namespace Go.Proofs.YtphjbbbnbmafnabGreatDoor.RxM
open Rx
/-- a row, read from the front: what was read of it, and what is left -/
def RowTo (n : Nat) (q : List Nat) (r : Rx) (p : Option Rx) : Prop := ∀ a, run n q [(a, eps, none)] = some [(a, r, p)]
theorem rowTo_nil (n : Nat) : RowTo n [] eps none := fun _ => rfl
theorem step40 (n : Nat) (a r : Rx) (p : Option Rx) (st : List Fr) : step n 40 ((a, r, p) :: st) = some (init :: (a, ab r p, none) :: st) := by simp [step]
theorem step41 (n : Nat) (f : Fr) (a r : Rx) (p : Option Rx) (st : List Fr) : step n 41 (f :: (a, r, p) :: st) = some ((a, r, some (fin f)) :: st) := by simp [step]
theorem step41_none (n : Nat) (f : Fr) : step n 41 [f] = none := by simp [step]
theorem step42 (n : Nat) (a r p : Rx) (st : List Fr) : step n 42 ((a, r, some p) :: st) = some ((a, r, some (star p)) :: st) := by simp [step]
theorem step42_none (n : Nat) (a r : Rx) (st : List Fr) : step n 42 ((a, r, none) :: st) = none := by simp [step]
theorem step46 (n : Nat) (a r : Rx) (p : Option Rx) (st : List Fr) : step n 46 ((a, r, p) :: st) = some ((a, ab r p, some (sym none)) :: st) := by simp [step]
theorem step124 (n : Nat) (a r : Rx) (p : Option Rx) (st : List Fr) : step n 124 ((a, r, p) :: st) = some ((alt a (ab r p), eps, none) :: st) := by simp [step]
theorem step_let (n c : Nat) (a r : Rx) (p : Option Rx) (st : List Fr) (h : c < n) (hn : n ≤ 26) : step n (97 + c) ((a, r, p) :: st) = some ((a, ab r p, some (sym (some c))) :: st) := by
  unfold step
  simp only
  rw [if_neg (by omega), if_neg (by omega), if_neg (by omega), if_neg (by omega), if_neg (by omega), if_pos (by omega), Nat.add_sub_cancel_left]
theorem step_bad (n c : Nat) (a r : Rx) (p : Option Rx) (st : List Fr) (h1 : c ≠ 124) (h2 : c ≠ 42) (h3 : c ≠ 40) (h4 : c ≠ 41) (h5 : c ≠ 46) (h6 : ¬ (97 ≤ c ∧ c < 97 + n)) : step n c ((a, r, p) :: st) = none := by
  unfold step
  simp only
  rw [if_neg h1, if_neg h2, if_neg h3, if_neg h4, if_neg h5, if_neg h6]
theorem run_one (n c : Nat) (st : List Fr) : run n [c] st = step n c st := by
  simp only [run]
  cases step n c st <;> rfl
theorem RowTo.snoc {n c : Nat} {q : List Nat} {r r' : Rx} {p p' : Option Rx} (h : RowTo n q r p) (hs : ∀ a, step n c [(a, r, p)] = some [(a, r', p')]) : RowTo n (q ++ [c]) r' p' := fun a => by
  rw [run_app, h a]
  simp only [Option.bind_some]
  rw [run_one, hs a]
theorem RowTo.point {n : Nat} {q : List Nat} {r : Rx} {p : Option Rx} (h : RowTo n q r p) : RowTo n (q ++ [46]) (ab r p) (some (sym none)) := h.snoc fun a => step46 n a r p []
theorem RowTo.letter {n c : Nat} {q : List Nat} {r : Rx} {p : Option Rx} (h : RowTo n q r p) (hc : c < n) (hn : n ≤ 26) : RowTo n (q ++ [97 + c]) (ab r p) (some (sym (some c))) := h.snoc fun a => step_let n c a r p [] hc hn
theorem RowTo.star {n : Nat} {q : List Nat} {r p : Rx} (h : RowTo n q r (some p)) : RowTo n (q ++ [42]) r (some (star p)) := h.snoc fun a => step42 n a r p []
theorem RowTo.over {n : Nat} {q : List Nat} {r : Rx} {p : Option Rx} (h : RowTo n q r p) (a : Rx) (b : List Fr) : run n q ((a, eps, none) :: b) = some ((a, r, p) :: b) := run_frame (h a) b
theorem RowTo.bracket {n : Nat} {q q2 : List Nat} {r : Rx} {p : Option Rx} {f : Fr} (h : RowTo n q r p) (h2 : run n q2 [init] = some [f]) : RowTo n (q ++ 40 :: (q2 ++ [41])) (ab r p) (some (fin f)) := fun a => by
  rw [run_app, h a]
  simp only [Option.bind_some, run]
  rw [step40]
  simp only [Option.bind_some]
  rw [run_app, show [init, (a, ab r p, none)] = [init] ++ [(a, ab r p, none)] from rfl, run_frame h2]
  simp only [Option.bind_some, List.cons_append, List.nil_append]
  rw [run_one, step41]
/-- nothing comes of a row any more -/
def RowDead (n : Nat) (s : List Nat) : Prop := ∀ a b, Dead n s ((a, eps, none) :: b)
/-- where a row, or rows, end: at the end, at a closing bracket, or at what may not be there -/
def Stop (n : Nat) (s : List Nat) (p : Option Rx) : Prop := s = [] ∨ (∃ s2, s = 41 :: s2) ∨ ∃ c s2, s = c :: s2 ∧ c ≠ 124 ∧ ∀ a r st, step n c ((a, r, p) :: st) = none
def StopR (n : Nat) (s : List Nat) (p : Option Rx) : Prop := Stop n s p ∨ ∃ s2, s = 124 :: s2
theorem rowDead_in {n : Nat} {q s : List Nat} {r : Rx} {p : Option Rx} (h : RowTo n q r p) (hd : ∀ b, Dead n s (init :: b)) : RowDead n (q ++ 40 :: s) := fun a b => by
  refine dead_app (h.over a b) fun f hf => ?_
  simp only [run, step40, Option.bind_some] at hf
  exact hd _ f hf
theorem rowDead_open {n : Nat} {q q2 s : List Nat} {r : Rx} {p : Option Rx} {f : Fr} (h : RowTo n q r p) (h2 : run n q2 [init] = some [f]) (hs : Stop n s f.2.2) (hn : ∀ s2, s ≠ 41 :: s2) : RowDead n (q ++ 40 :: (q2 ++ s)) := fun a b => by
  refine dead_app (h.over a b) fun x hx => ?_
  simp only [run, step40, Option.bind_some] at hx
  have := dead_app (t := s) (run_frame h2 ((a, ab r p, none) :: b)) ?_
  · exact this x hx
  · rcases hs with rfl | ⟨s2, rfl⟩ | ⟨c, s2, rfl, _, hc⟩
    · exact dead_nil
    · exact absurd rfl (hn s2)
    · exact dead_step (hc _ _ _)
theorem rowDead_more {n : Nat} {q s : List Nat} {r : Rx} {p : Option Rx} (h : RowTo n q r p) (hd : ∀ a b, Dead n s ((a, r, p) :: b)) : RowDead n (q ++ s) := fun a b => dead_app (h.over a b) (hd a b)
/-- rows with bars between, read from the front -/
def ChoTo (n : Nat) (q : List Nat) (f : Fr) : Prop := run n q [init] = some [f]
def ChoDead (n : Nat) (s : List Nat) : Prop := ∀ b, Dead n s (init :: b)
theorem choTo_row {n : Nat} {q : List Nat} {r : Rx} {p : Option Rx} (h : RowTo n q r p) : ChoTo n q (void, r, p) := h void
theorem ChoTo.row {n : Nat} {q q2 : List Nat} {f : Fr} {r : Rx} {p : Option Rx} (h : ChoTo n q f) (h2 : RowTo n q2 r p) : ChoTo n (q ++ 124 :: q2) (fin f, r, p) := by
  unfold ChoTo
  rw [run_app, show run n q [init] = some [f] from h]
  obtain ⟨a, r0, p0⟩ := f
  simp only [Option.bind_some, run, step124]
  exact h2 _
theorem choDead_row {n : Nat} {s : List Nat} (h : RowDead n s) : ChoDead n s := fun b => h void b
theorem ChoTo.dead {n : Nat} {q s : List Nat} {f : Fr} (h : ChoTo n q f) (h2 : RowDead n s) : ChoDead n (q ++ 124 :: s) := fun b => by
  refine dead_app (run_frame h b) fun x hx => ?_
  obtain ⟨a, r0, p0⟩ := f
  simp only [List.cons_append, List.nil_append, run, step124, Option.bind_some] at hx
  exact h2 _ _ x hx
/-- the whole query -/
theorem read_cho {n : Nat} {q : List Nat} {f : Fr} (h : ChoTo n q f) : read n q = some (fin f) := read_some h
theorem read_left {n c : Nat} {q s : List Nat} {f : Fr} (h : ChoTo n q f) (hs : Stop n (c :: s) f.2.2) : read n (q ++ c :: s) = none := by
  refine read_none (dead_app h ?_)
  rcases hs with e | ⟨s2, e⟩ | ⟨c2, s2, e, _, hc⟩
  · simp at e
  · rw [e]; exact dead_step (step41_none n f)
  · rw [e]; exact dead_step (hc _ _ _)
theorem read_dead {n : Nat} {s : List Nat} (h : ChoDead n s) : read n s = none := read_none (h [])
end Go.Proofs.YtphjbbbnbmafnabGreatDoor.RxM

namespace Go.Proofs.YtphjbbbnbmafnabGreatDoor.RxM
/-- the bits that are set, in order -/
def bl (w : Nat) : List Nat := (List.range 64).filter w.testBit
theorem bl_rise (w : Nat) : (bl w).Pairwise (· < ·) := List.Pairwise.sublist List.filter_sublist List.pairwise_lt_range
theorem mem_bl {w p : Nat} : p ∈ bl w ↔ p < 64 ∧ w.testBit p = true := by unfold bl; rw [List.mem_filter, List.mem_range]
theorem bl_zero : bl 0 = [] := by unfold bl; simp
theorem rise_one : ∀ (l m : List Nat), l.Pairwise (· < ·) → m.Pairwise (· < ·) → (∀ x, x ∈ l ↔ x ∈ m) → l = m
  | [], [], _, _, _ => rfl
  | [], b :: m, _, _, h => absurd ((h b).2 (by simp)) (by simp)
  | a :: l, [], _, _, h => absurd ((h a).1 (by simp)) (by simp)
  | a :: l, b :: m, h1, h2, h => by
    rw [List.pairwise_cons] at h1 h2
    have e : a = b := by
      have ha := (h a).1 (by simp)
      have hb := (h b).2 (by simp)
      rcases List.mem_cons.1 ha with e | e
      · exact e
      · rcases List.mem_cons.1 hb with e2 | e2
        · exact e2.symm
        · have := h2.1 a e; have := h1.1 b e2; omega
    subst e
    refine congrArg (a :: ·) (rise_one l m h1.2 h2.2 fun x => ?_)
    constructor
    · intro hx
      rcases List.mem_cons.1 ((h x).1 (by simp [hx])) with e | e
      · have := h1.1 x hx; omega
      · exact e
    · intro hx
      rcases List.mem_cons.1 ((h x).2 (by simp [hx])) with e | e
      · have := h2.1 x hx; omega
      · exact e
/-- a number whose lowest bit is k -/
theorem low_bits (k m : Nat) (j : Nat) : (2 ^ k * (2 * m + 1)).testBit j = (decide (k ≤ j) && (2 * m + 1).testBit (j - k)) := by
  rw [Nat.testBit_two_pow_mul]
theorem low_less (k m : Nat) : 2 ^ k * (2 * m + 1) - 1 = 2 ^ k * (2 * m) + (2 ^ k - 1) := by
  have : 0 < 2 ^ k := Nat.two_pow_pos k
  rw [Nat.mul_add, Nat.mul_one]
  omega
theorem low_and (k m j : Nat) : ((2 ^ k * (2 * m + 1)) &&& (2 ^ k * (2 * m + 1) - 1)).testBit j = ((2 ^ k * (2 * m + 1)).testBit j && decide (j ≠ k)) := by
  rw [Nat.testBit_and, low_less, low_bits, Nat.testBit_two_pow_mul_add _ (Nat.sub_lt (Nat.two_pow_pos k) Nat.one_pos)]
  by_cases h1 : j < k
  · rw [if_pos h1, decide_eq_false (by omega)]; simp
  · rw [if_neg h1, decide_eq_true (by omega : k ≤ j)]
    by_cases h2 : j = k
    · subst h2; simp
    · obtain ⟨d, rfl⟩ : ∃ d, j = k + (d + 1) := ⟨j - k - 1, by omega⟩
      rw [Nat.add_sub_cancel_left, decide_eq_true h2, Nat.testBit_succ, Nat.testBit_succ]
      have e1 : (2 * m + 1) / 2 = m := by omega
      have e2 : 2 * m / 2 = m := by omega
      rw [e1, e2]
      simp
/-- the lowest bit, then the others -/
theorem bl_low (w k m : Nat) (hw : w = 2 ^ k * (2 * m + 1)) (hk : k < 64) : bl w = k :: bl (w &&& (w - 1)) := by
  have hb : ∀ j, (w &&& (w - 1)).testBit j = (w.testBit j && decide (j ≠ k)) := fun j => by rw [hw]; exact low_and k m j
  have h0 : ∀ j, w.testBit j = true → k ≤ j := fun j hj => by
    rw [hw, low_bits] at hj
    simp only [Bool.and_eq_true, decide_eq_true_eq] at hj
    exact hj.1
  have h1 : w.testBit k = true := by rw [hw, low_bits]; simp
  refine rise_one _ _ (bl_rise w) ?_ fun x => ?_
  · rw [List.pairwise_cons]
    refine ⟨fun x hx => ?_, bl_rise _⟩
    rw [mem_bl, hb] at hx
    simp only [Bool.and_eq_true, decide_eq_true_eq] at hx
    have := h0 x hx.2.1
    omega
  · rw [List.mem_cons, mem_bl, mem_bl, hb]
    simp only [Bool.and_eq_true, decide_eq_true_eq]
    constructor
    · rintro ⟨h2, h3⟩
      by_cases e : x = k
      · exact .inl e
      · exact .inr ⟨h2, h3, e⟩
    · rintro (rfl | ⟨h2, h3, _⟩)
      · exact ⟨hk, h1⟩
      · exact ⟨h2, h3⟩
/-- a set of places in words of 64 bits -/
def memW (W : List Nat) (p : Nat) : Bool := (W.getD (p / 64) 0).testBit (p % 64)
/-- all of its places, in order -/
def placesW : List Nat → Nat → List Nat
  | [], _ => []
  | w :: W, i => (bl w).map (64 * i + ·) ++ placesW W (i + 1)
theorem mem_placesW : ∀ (W : List Nat) (i p : Nat), p ∈ placesW W i ↔ 64 * i ≤ p ∧ memW W (p - 64 * i) = true
  | [], i, p => by simp [placesW, memW]
  | w :: W, i, p => by
    rw [placesW, List.mem_append, List.mem_map, mem_placesW W (i + 1) p]
    constructor
    · rintro (⟨a, ha, rfl⟩ | ⟨h1, h2⟩)
      · rw [mem_bl] at ha
        refine ⟨by omega, ?_⟩
        unfold memW
        rw [Nat.add_sub_cancel_left, Nat.div_eq_of_lt ha.1, Nat.mod_eq_of_lt ha.1]
        exact ha.2
      · refine ⟨by omega, ?_⟩
        unfold memW at h2 ⊢
        have e1 : (p - 64 * i) / 64 = (p - 64 * (i + 1)) / 64 + 1 := by omega
        have e2 : (p - 64 * i) % 64 = (p - 64 * (i + 1)) % 64 := by omega
        rw [e1, e2]
        exact h2
    · rintro ⟨h1, h2⟩
      unfold memW at h2
      by_cases h : p < 64 * (i + 1)
      · have e1 : (p - 64 * i) / 64 = 0 := by omega
        have e2 : (p - 64 * i) % 64 = p - 64 * i := by omega
        rw [e1, e2] at h2
        exact .inl ⟨p - 64 * i, mem_bl.2 ⟨by omega, h2⟩, by omega⟩
      · refine .inr ⟨by omega, ?_⟩
        unfold memW
        have e1 : (p - 64 * i) / 64 = (p - 64 * (i + 1)) / 64 + 1 := by omega
        have e2 : (p - 64 * i) % 64 = (p - 64 * (i + 1)) % 64 := by omega
        rw [e1, e2] at h2
        exact h2
end Go.Proofs.YtphjbbbnbmafnabGreatDoor.RxM

namespace Go.Proofs.YtphjbbbnbmafnabGreatDoor.RxM
open Rx
section
variable (bh : Nat → Nat → Bool) (tk : Nat → Nat → Bool) (E : Nat → Nat → Nat → Prop) (u : Nat)
/-- a place of the expression and the node to which a way leads that stands there -/
inductive Rc : Nat → Nat → Prop
  | start : Rc 0 u
  | more {p q m c v : Nat} : Rc p m → bh p q = true → E m c v → tk c q = true → Rc q v
/-- what is known of all ways: seen, not gone on from yet, the nodes that wait; X: what is still to be done -/
structure Inv (n : Nat) (seen fresh : Nat → Nat → Bool) (wait : List Nat) (X : Nat → Nat → Nat → Nat → Prop) : Prop where
  start : seen u 0 = true
  sound : ∀ v p, seen v p = true → Rc bh tk E u p v
  closed : ∀ m p, seen m p = true → fresh m p = false → ∀ q c v, bh p q = true → E m c v → tk c q = true → seen v q = true ∨ X m p c v
  sub : ∀ v p, fresh v p = true → seen v p = true
  wt : ∀ v, v ∈ wait ↔ ∃ p, fresh v p = true
  nodup : wait.Nodup
  lt : ∀ v ∈ wait, v < n
end
variable {bh : Nat → Nat → Bool} {tk : Nat → Nat → Bool} {E : Nat → Nat → Nat → Prop} {u : Nat}
def upd (f : Nat → Nat → Bool) (v : Nat) (g : Nat → Bool) : Nat → Nat → Bool := fun x p => if x = v then g p else f x p
theorem inv_end {n : Nat} {seen fresh : Nat → Nat → Bool} (h : Inv bh tk E u n seen fresh [] (fun _ _ _ _ => False)) (v p : Nat) : seen v p = true ↔ Rc bh tk E u p v := by
  refine ⟨h.sound v p, fun hr => ?_⟩
  have hf : ∀ x y, fresh x y = false := fun x y => by
    cases e : fresh x y with
    | false => rfl
    | true => exact absurd ((h.wt x).2 ⟨y, e⟩) (by simp)
  induction hr with
  | start => exact h.start
  | more _ h1 h2 h3 ih => exact (h.closed _ _ ih (hf _ _) _ _ _ h1 h2 h3).resolve_right id
/-- a way comes to a node, with nothing new -/
theorem inv_none {n : Nat} {seen fresh : Nat → Nat → Bool} {wait : List Nat} {X Y : Nat → Nat → Nat → Nat → Prop} (h : Inv bh tk E u n seen fresh wait X) (hX : ∀ m p q c v, seen m p = true → fresh m p = false → bh p q = true → E m c v → tk c q = true → X m p c v → seen v q = true ∨ Y m p c v) : Inv bh tk E u n seen fresh wait Y :=
  ⟨h.start, h.sound, fun m p h1 h2 q c v h3 h4 h5 => (h.closed m p h1 h2 q c v h3 h4 h5).elim .inl (hX m p q c v h1 h2 h3 h4 h5), h.sub, h.wt, h.nodup, h.lt⟩
/-- a way comes to a node, with something new -/
theorem inv_come {n : Nat} {seen fresh : Nat → Nat → Bool} {wait wait' : List Nat} {X Y : Nat → Nat → Nat → Nat → Prop} (h : Inv bh tk E u n seen fresh wait X) (v : Nat) (at_ : Nat → Bool) (hv : v < n) (hr : ∀ q, at_ q = true → Rc bh tk E u q v) (hnew : ∃ q, at_ q = true ∧ seen v q = false)
    (b : Bool) (hb : b = true ↔ ∀ p, fresh v p = false) (hw : wait' = if b = true then wait ++ [v] else wait)
    (hX : ∀ m p q c v1, bh p q = true → tk c q = true → E m c v1 → X m p c v1 → (v1 = v ∧ at_ q = true) ∨ Y m p c v1) :
    Inv bh tk E u n (upd seen v fun p => seen v p || at_ p) (upd fresh v fun p => fresh v p || (at_ p && !seen v p)) wait' Y := by
  have mono : ∀ x p, seen x p = true → upd seen v (fun p => seen v p || at_ p) x p = true := fun x p hp => by
    unfold upd
    split
    · rename_i e; subst e; simp [hp]
    · exact hp
  refine ⟨mono _ _ h.start, fun x p hp => ?_, fun m p h1 h2 q c v1 h3 h4 h5 => ?_, fun x p hp => ?_, fun x => ?_, ?_, ?_⟩
  · unfold upd at hp
    split at hp
    · rename_i e; subst e
      simp only [Bool.or_eq_true] at hp
      exact hp.elim (h.sound _ _) (hr _)
    · exact h.sound _ _ hp
  · have h6 : seen m p = true ∧ fresh m p = false := by
      unfold upd at h1 h2
      split at h1
      · rename_i e; subst e
        rw [if_pos rfl] at h2
        simp only [Bool.or_eq_true] at h1
        simp only [Bool.or_eq_false_iff, Bool.and_eq_false_iff, Bool.not_eq_false'] at h2
        refine ⟨h1.elim id fun ha => h2.2.elim (fun hb => by rw [ha] at hb; simp at hb) id, h2.1⟩
      · rename_i e
        rw [if_neg e] at h2
        exact ⟨h1, h2⟩
    rcases h.closed m p h6.1 h6.2 q c v1 h3 h4 h5 with h7 | h7
    · exact .inl (mono _ _ h7)
    · rcases hX m p q c v1 h3 h5 h4 h7 with ⟨rfl, h8⟩ | h8
      · exact .inl (by unfold upd; rw [if_pos rfl]; simp [h8])
      · exact .inr h8
  · unfold upd at hp ⊢
    split at hp
    · rename_i e; subst e
      rw [if_pos rfl]
      simp only [Bool.or_eq_true, Bool.and_eq_true] at hp ⊢
      exact hp.elim (fun h1 => .inl (h.sub _ _ h1)) (fun h1 => .inr h1.1)
    · rename_i e; rw [if_neg e]; exact h.sub _ _ hp
  · obtain ⟨q, hq1, hq2⟩ := hnew
    by_cases e : x = v
    · subst e
      constructor
      · intro _
        exact ⟨q, by unfold upd; rw [if_pos rfl]; simp [hq1, hq2]⟩
      · intro _
        rw [hw]
        split
        · simp
        · rename_i hn
          rw [h.wt]
          refine Classical.byContradiction fun hc => hn (hb.2 fun p => ?_)
          cases e : fresh x p with
          | false => rfl
          | true => exact absurd ⟨p, e⟩ hc
    · have e1 : (x ∈ wait') ↔ x ∈ wait := by
        rw [hw]; split
        · simp [e]
        · exact Iff.rfl
      rw [e1, h.wt]
      unfold upd
      simp only [if_neg e]
  · rw [hw]
    split
    · rename_i hn
      refine List.nodup_append.2 ⟨h.nodup, by simp, ?_⟩
      intro a ha b hb
      simp only [List.mem_singleton] at hb
      subst hb
      intro e
      subst e
      obtain ⟨p, hp⟩ := (h.wt a).1 ha
      rw [hb.1 hn p] at hp
      simp at hp
    · exact h.nodup
  · intro x hx
    rw [hw] at hx
    split at hx
    · simp only [List.mem_append, List.mem_singleton] at hx
      exact hx.elim (h.lt x) (fun e => by rw [e]; exact hv)
    · exact h.lt x hx
/-- a node that waits is taken -/
theorem inv_pop {n : Nat} {seen fresh : Nat → Nat → Bool} {wait : List Nat} {x : Nat} (h : Inv bh tk E u n seen fresh (wait ++ [x]) (fun _ _ _ _ => False)) :
    Inv bh tk E u n seen (upd fresh x fun _ => false) wait (fun m p c v => m = x ∧ fresh x p = true ∧ E x c v) := by
  have hnd := List.nodup_append.1 h.nodup
  have hx : x ∉ wait := fun hm => hnd.2.2 x hm x (by simp) rfl
  refine ⟨h.start, h.sound, fun m p h1 h2 q c v h3 h4 h5 => ?_, fun v p hp => ?_, fun v => ?_, hnd.1, fun v hv => h.lt v (by simp [hv])⟩
  · by_cases e : m = x
    · subst e
      cases hf : fresh m p with
      | true => exact .inr ⟨rfl, rfl, h4⟩
      | false => exact .inl ((h.closed m p h1 hf q c v h3 h4 h5).resolve_right id)
    · unfold upd at h2
      rw [if_neg e] at h2
      exact .inl ((h.closed m p h1 h2 q c v h3 h4 h5).resolve_right id)
  · unfold upd at hp
    split at hp
    · simp at hp
    · exact h.sub v p hp
  · by_cases e : v = x
    · subst e
      refine ⟨fun hv => absurd hv hx, fun ⟨p, hp⟩ => ?_⟩
      unfold upd at hp
      rw [if_pos rfl] at hp
      simp at hp
    · unfold upd
      simp only [if_neg e]
      rw [← h.wt v]
      simp [e]
/-- how much is not seen -/
def unseen (seen : Nat → Nat → Bool) (n P : Nat) : Nat := ((List.range n).map fun v => ((List.range P).filter fun p => !seen v p).length).sum
theorem filt_le (f g : Nat → Bool) (l : List Nat) (h : ∀ p ∈ l, f p = true → g p = true) : (l.filter f).length ≤ (l.filter g).length := by
  induction l with
  | nil => simp
  | cons a l ih =>
    have := ih fun p hp => h p (by simp [hp])
    simp only [List.filter_cons]
    cases hf : f a with
    | true => rw [h a (by simp) hf]; simp; exact this
    | false =>
      cases g a with
      | true => simp; omega
      | false => simpa using this
theorem filt_lt (f g : Nat → Bool) (l : List Nat) (h : ∀ p ∈ l, f p = true → g p = true) (x : Nat) (hx : x ∈ l) (hf : f x = false) (hg : g x = true) : (l.filter f).length < (l.filter g).length := by
  induction l with
  | nil => simp at hx
  | cons a l ih =>
    simp only [List.filter_cons]
    rcases List.mem_cons.1 hx with e | e
    · subst e
      rw [hf, hg]
      simp only [if_true]
      have := filt_le f g l fun p hp => h p (by simp [hp])
      simp; omega
    · have := ih (fun p hp => h p (by simp [hp])) e
      cases hfa : f a with
      | true => rw [h a (by simp) hfa]; simp; exact this
      | false =>
        cases g a with
        | true => simp; omega
        | false => simpa using this
theorem sum_le (f g : Nat → Nat) (l : List Nat) (h : ∀ v ∈ l, f v ≤ g v) : (l.map f).sum ≤ (l.map g).sum := by
  induction l with
  | nil => simp
  | cons a l ih =>
    have := ih fun v hv => h v (by simp [hv])
    have := h a (by simp)
    simp; omega
theorem sum_lt (f g : Nat → Nat) (l : List Nat) (h : ∀ v ∈ l, f v ≤ g v) (x : Nat) (hx : x ∈ l) (hl : f x < g x) : (l.map f).sum < (l.map g).sum := by
  induction l with
  | nil => simp at hx
  | cons a l ih =>
    rcases List.mem_cons.1 hx with e | e
    · subst e
      have := sum_le f g l fun v hv => h v (by simp [hv])
      simp; omega
    · have := ih (fun v hv => h v (by simp [hv])) e
      have := h a (by simp)
      simp; omega
theorem unseen_le {seen seen' : Nat → Nat → Bool} {n P : Nat} (h : ∀ v p, seen v p = true → seen' v p = true) : unseen seen' n P ≤ unseen seen n P := by
  unfold unseen
  refine sum_le _ _ _ fun v _ => filt_le _ _ _ fun p _ hp => ?_
  cases e : seen v p with
  | false => rfl
  | true => rw [h v p e] at hp; simp at hp
theorem unseen_lt {seen seen' : Nat → Nat → Bool} {n P : Nat} (h : ∀ v p, seen v p = true → seen' v p = true) (v p : Nat) (hv : v < n) (hp : p < P) (h0 : seen v p = false) (h1 : seen' v p = true) : unseen seen' n P < unseen seen n P := by
  unfold unseen
  have hh : ∀ v p, (!seen' v p) = true → (!seen v p) = true := fun v p hp => by
    cases e : seen v p with
    | false => rfl
    | true => rw [h v p e] at hp; simp at hp
  exact sum_lt _ _ _ (fun v _ => filt_le _ _ _ fun p _ => hh v p) v (List.mem_range.2 hv) (filt_lt _ _ _ (fun p _ => hh v p) p (List.mem_range.2 hp) (by simp [h1]) (by simp [h0]))
/-- the program's places: 0 stands ahead of all; the labels by what takes them -/
def bh0 (t : Rx) (p q : Nat) : Bool := if p = 0 then fst t 1 q else nxt t 1 p q
def tk0 (t : Rx) (c q : Nat) : Bool := decide (1 ≤ q) && decide (q < 1 + size t) && takes (lab t 1 q) c
def en0 (t : Rx) (p : Nat) : Bool := lst t 1 p || (nul t && p == 0)
theorem bh0_in {t : Rx} {p q : Nat} (h : bh0 t p q = true) : 1 ≤ q ∧ q < 1 + size t := by
  unfold bh0 at h
  split at h
  · exact fst_in _ _ _ h
  · exact (nxt_in _ _ _ _ h).2
theorem rc_way {t : Rx} {p v : Nat} (h : Rc (bh0 t) (tk0 t) E u p v) : (p = 0 ∧ v = u) ∨ (1 ≤ p ∧ Way E t 1 u p v) := by
  induction h with
  | start => exact .inl ⟨rfl, rfl⟩
  | @more p q m c v _ h1 h2 h3 ih =>
    have hq := bh0_in h1
    have hg : Go E (lab t 1 q) m v := ⟨c, by unfold tk0 at h3; simp only [Bool.and_eq_true] at h3; exact h3.2, h2⟩
    rcases ih with ⟨rfl, rfl⟩ | ⟨hp, hw⟩
    · exact .inr ⟨hq.1, .one h1 hg⟩
    · unfold bh0 at h1
      rw [if_neg (by omega)] at h1
      exact .inr ⟨hq.1, .more hw h1 hg⟩
theorem way_rc {t : Rx} {p v : Nat} (h : Way E t 1 u p v) : Rc (bh0 t) (tk0 t) E u p v := by
  induction h with
  | @one p v h1 h2 =>
    obtain ⟨c, hc, he⟩ := h2
    have := fst_in _ _ _ h1
    exact .more .start (p := 0) (by unfold bh0; rw [if_pos rfl]; exact h1) he (by unfold tk0; simp [hc]; omega)
  | @more p q m v hw h1 h2 ih =>
    obtain ⟨c, hc, he⟩ := h2
    have := nxt_in _ _ _ _ h1
    exact .more ih (by unfold bh0; rw [if_neg (by omega)]; exact h1) he (by unfold tk0; simp [hc]; omega)
/-- to which nodes ways lead -/
theorem rc_rel {t : Rx} {v : Nat} : (∃ p, Rc (bh0 t) (tk0 t) E u p v ∧ en0 t p = true) ↔ rel E t u v := by
  rw [way_rel t 1 u v]
  constructor
  · rintro ⟨p, hr, he⟩
    unfold en0 at he
    simp only [Bool.or_eq_true, Bool.and_eq_true, beq_iff_eq] at he
    rcases rc_way hr with ⟨rfl, rfl⟩ | ⟨hp, hw⟩
    · rcases he with he | he
      · have := lst_in _ _ _ he; omega
      · exact .inl ⟨he.1, rfl⟩
    · rcases he with he | he
      · exact .inr ⟨p, hw, he⟩
      · omega
  · rintro (⟨hn, rfl⟩ | ⟨p, hw, hl⟩)
    · exact ⟨0, .start, by unfold en0; simp [hn]⟩
    · exact ⟨p, way_rc hw, by unfold en0; simp [hl]⟩
end Go.Proofs.YtphjbbbnbmafnabGreatDoor.RxM

namespace Go.Proofs.YtphjbbbnbmafnabGreatDoor.RxM
open Rx
/-- the places at which texts begin, and end, as lists -/
def firsts : Rx → Nat → List Nat
  | void, _ => [] | eps, _ => []
  | sym _, k => [k]
  | star t, k => firsts t k
  | cat a b, k => firsts a k ++ (if nul a then firsts b (k + size a) else [])
  | alt a b, k => firsts a k ++ firsts b (k + size a)
def lasts : Rx → Nat → List Nat
  | void, _ => [] | eps, _ => []
  | sym _, k => [k]
  | star t, k => lasts t k
  | cat a b, k => (if nul b then lasts a k else []) ++ lasts b (k + size a)
  | alt a b, k => lasts a k ++ lasts b (k + size a)
theorem mem_firsts : ∀ (t : Rx) (k p : Nat), p ∈ firsts t k ↔ fst t k p = true
  | void, _, _ => by simp [firsts, fst]
  | eps, _, _ => by simp [firsts, fst]
  | sym _, _, _ => by simp [firsts, fst]
  | star t, k, p => mem_firsts t k p
  | cat a b, k, p => by
    simp only [firsts, fst, List.mem_append, Bool.or_eq_true, Bool.and_eq_true]
    rw [mem_firsts a k p]
    cases nul a <;> simp [mem_firsts b]
  | alt a b, k, p => by
    simp only [firsts, fst, List.mem_append, Bool.or_eq_true]
    rw [mem_firsts a k p, mem_firsts b]
theorem mem_lasts : ∀ (t : Rx) (k p : Nat), p ∈ lasts t k ↔ lst t k p = true
  | void, _, _ => by simp [lasts, lst]
  | eps, _, _ => by simp [lasts, lst]
  | sym _, _, _ => by simp [lasts, lst]
  | star t, k, p => mem_lasts t k p
  | cat a b, k, p => by
    simp only [lasts, lst, List.mem_append, Bool.or_eq_true, Bool.and_eq_true]
    rw [mem_lasts b]
    cases nul b <;> simp [mem_lasts a, or_comm]
  | alt a b, k, p => by
    simp only [lasts, lst, List.mem_append, Bool.or_eq_true]
    rw [mem_lasts a k p, mem_lasts b]
theorem firsts_len : ∀ (t : Rx) (k : Nat), (firsts t k).length ≤ size t
  | void, _ => by simp [firsts, size]
  | eps, _ => by simp [firsts, size]
  | sym _, _ => by simp [firsts, size]
  | star t, k => firsts_len t k
  | cat a b, k => by
    have h1 := firsts_len a k
    have h2 := firsts_len b (k + size a)
    simp only [firsts, size, List.length_append]
    split <;> simp <;> omega
  | alt a b, k => by
    have h1 := firsts_len a k
    have h2 := firsts_len b (k + size a)
    simp only [firsts, size, List.length_append]
    omega
theorem lasts_len : ∀ (t : Rx) (k : Nat), (lasts t k).length ≤ size t
  | void, _ => by simp [lasts, size]
  | eps, _ => by simp [lasts, size]
  | sym _, _ => by simp [lasts, size]
  | star t, k => lasts_len t k
  | cat a b, k => by
    have h1 := lasts_len a k
    have h2 := lasts_len b (k + size a)
    simp only [lasts, size, List.length_append]
    split <;> simp <;> omega
  | alt a b, k => by
    have h1 := lasts_len a k
    have h2 := lasts_len b (k + size a)
    simp only [lasts, size, List.length_append]
    omega
/-- the document's: the beginning stands behind all letters -/
def nx (t : Rx) (p q : Nat) : Bool := if p = size t then fst t 0 q else nxt t 0 p q
section
variable (E : Nat → Nat → Nat → Prop) (t : Rx) (u : Nat)
/-- spots, each once; i: so many of them are gone on from; X: what is still to be done -/
structure Bfs (spots : List (Nat × Nat)) (seen : Nat → Nat → Bool) (i : Nat) (X : Nat → Nat → Nat → Nat → Nat → Prop) : Prop where
  zero : spots[0]? = some (size t, u)
  sound : ∀ q v, seen q v = true → Way E t 0 u q v
  here : ∀ q v, seen q v = true → (q, v) ∈ spots
  there : ∀ x ∈ spots, x = (size t, u) ∨ seen x.1 x.2 = true
  closed : ∀ j p m, j < i → spots[j]? = some (p, m) → ∀ q c v, nx t p q = true → E m c v → takes (lab t 0 q) c = true → seen q v = true ∨ X p m q c v
end
variable {E : Nat → Nat → Nat → Prop} {t : Rx} {u : Nat}
theorem Bfs.way {spots : List (Nat × Nat)} {seen : Nat → Nat → Bool} {i : Nat} {X : Nat → Nat → Nat → Nat → Nat → Prop} (h : Bfs E t u spots seen i X) {p m q c v : Nat} (hs : (p, m) ∈ spots) (hn : nx t p q = true) (he : E m c v) (ht : takes (lab t 0 q) c = true) : Way E t 0 u q v := by
  rcases h.there _ hs with e | e
  · injection e with e1 e2
    subst e1 e2
    unfold nx at hn
    rw [if_pos rfl] at hn
    exact .one hn ⟨c, ht, he⟩
  · have hw := h.sound _ _ e
    have := hw.in
    unfold nx at hn
    rw [if_neg (by omega)] at hn
    exact .more hw hn ⟨c, ht, he⟩
theorem bfs_end {spots : List (Nat × Nat)} {seen : Nat → Nat → Bool} (h : Bfs E t u spots seen spots.length (fun _ _ _ _ _ => False)) (q v : Nat) : seen q v = true ↔ Way E t 0 u q v := by
  refine ⟨h.sound q v, fun hw => ?_⟩
  induction hw with
  | @one p v h1 h2 =>
    obtain ⟨c, hc, he⟩ := h2
    exact (h.closed 0 (size t) u (List.getElem?_eq_some_iff.1 h.zero).1 h.zero p c v (by unfold nx; rw [if_pos rfl]; exact h1) he hc).resolve_right id
  | @more p q m v hw h1 h2 ih =>
    obtain ⟨c, hc, he⟩ := h2
    obtain ⟨j, hj⟩ := List.getElem?_of_mem (h.here _ _ ih)
    have := hw.in
    exact (h.closed j p m (List.getElem?_eq_some_iff.1 hj).1 hj q c v (by unfold nx; rw [if_neg (by omega)]; exact h1) he hc).resolve_right id
/-- a new spot -/
theorem bfs_new {spots : List (Nat × Nat)} {seen : Nat → Nat → Bool} {i : Nat} {X Y : Nat → Nat → Nat → Nat → Nat → Prop} (h : Bfs E t u spots seen i X) (hi : i ≤ spots.length) (q v : Nat) (hw : Way E t 0 u q v) (hX : ∀ p m q1 c v1, X p m q1 c v1 → (q1 = q ∧ v1 = v) ∨ Y p m q1 c v1) :
    Bfs E t u (spots ++ [(q, v)]) (upd seen q fun x => seen q x || x == v) i Y := by
  have mono : ∀ q1 x, seen q1 x = true → upd seen q (fun x => seen q x || x == v) q1 x = true := fun q1 x hx => by
    unfold upd
    split
    · rename_i e; subst e; simp [hx]
    · exact hx
  have new : upd seen q (fun x => seen q x || x == v) q v = true := by unfold upd; simp
  have inv : ∀ q1 x, upd seen q (fun x => seen q x || x == v) q1 x = true → seen q1 x = true ∨ (q1 = q ∧ x = v) := fun q1 x hx => by
    unfold upd at hx
    split at hx
    · rename_i e; subst e
      simp only [Bool.or_eq_true, beq_iff_eq] at hx
      exact hx.elim .inl (fun e => .inr ⟨rfl, e⟩)
    · exact .inl hx
  refine ⟨?_, fun q1 x hx => ?_, fun q1 x hx => ?_, fun x hx => ?_, fun j p m hj hs q1 c v1 h1 h2 h3 => ?_⟩
  · rw [List.getElem?_append_left (List.getElem?_eq_some_iff.1 h.zero).1]; exact h.zero
  · rcases inv q1 x hx with e | ⟨rfl, rfl⟩
    · exact h.sound _ _ e
    · exact hw
  · rcases inv q1 x hx with e | ⟨rfl, rfl⟩
    · exact List.mem_append.2 (.inl (h.here _ _ e))
    · simp
  · rcases List.mem_append.1 hx with e | e
    · rcases h.there x e with e | e
      · exact .inl e
      · exact .inr (mono _ _ e)
    · simp only [List.mem_singleton] at e
      subst e
      exact .inr new
  · rw [List.getElem?_append_left (by omega)] at hs
    rcases h.closed j p m hj hs q1 c v1 h1 h2 h3 with e | e
    · exact .inl (mono _ _ e)
    · rcases hX p m q1 c v1 e with ⟨rfl, rfl⟩ | e
      · exact .inl new
      · exact .inr e
theorem bfs_same {spots : List (Nat × Nat)} {seen : Nat → Nat → Bool} {i : Nat} {X Y : Nat → Nat → Nat → Nat → Nat → Prop} (h : Bfs E t u spots seen i X) (hX : ∀ p m q c v, nx t p q = true → E m c v → takes (lab t 0 q) c = true → X p m q c v → seen q v = true ∨ Y p m q c v) : Bfs E t u spots seen i Y :=
  ⟨h.zero, h.sound, h.here, h.there, fun j p m hj hs q c v h1 h2 h3 => (h.closed j p m hj hs q c v h1 h2 h3).elim .inl (hX p m q c v h1 h2 h3)⟩
/-- the next spot is taken -/
theorem bfs_next {spots : List (Nat × Nat)} {seen : Nat → Nat → Bool} {i p m : Nat} (h : Bfs E t u spots seen i (fun _ _ _ _ _ => False)) (hs : spots[i]? = some (p, m)) :
    Bfs E t u spots seen (i + 1) (fun p1 m1 q c v => p1 = p ∧ m1 = m ∧ nx t p q = true ∧ E m c v ∧ takes (lab t 0 q) c = true) :=
  ⟨h.zero, h.sound, h.here, h.there, fun j p1 m1 hj hs1 q c v h1 h2 h3 => by
    by_cases e : j = i
    · subst e
      rw [hs] at hs1
      injection hs1 with e
      injection e with e1 e2
      subst e1 e2
      exact .inr ⟨rfl, rfl, h1, h2, h3⟩
    · exact .inl ((h.closed j p1 m1 (by omega) hs1 q c v h1 h2 h3).resolve_right id)⟩
theorem bfs_start : Bfs E t u [(size t, u)] (fun _ _ => false) 0 (fun _ _ _ _ _ => False) :=
  ⟨rfl, fun _ _ h => by simp at h, fun _ _ h => by simp at h, fun x hx => by simp at hx; exact .inl hx, fun j _ _ h => by omega⟩
/-- to which nodes ways lead -/
theorem bfs_rel {v : Nat} : ((v = u ∧ nul t = true) ∨ ∃ p, p ∈ lasts t 0 ∧ Way E t 0 u p v) ↔ rel E t u v := by
  rw [way_rel t 0 u v]
  constructor
  · rintro (⟨rfl, h⟩ | ⟨p, hp, hw⟩)
    · exact .inl ⟨h, rfl⟩
    · exact .inr ⟨p, hw, (mem_lasts t 0 p).1 hp⟩
  · rintro (⟨h, rfl⟩ | ⟨p, hw, hl⟩)
    · exact .inl ⟨rfl, h⟩
    · exact .inr ⟨p, (mem_lasts t 0 p).2 hl, hw⟩
end Go.Proofs.YtphjbbbnbmafnabGreatDoor.RxM
