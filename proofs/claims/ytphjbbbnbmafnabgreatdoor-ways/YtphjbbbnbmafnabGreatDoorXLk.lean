/-
  One place alone (expr.only); the reader's next byte (take); Expr.Taking and Expr.IsText.
  The reader's link: the places of one set go on to all of another; the row behind them is written, nothing else that was there.
-/
import Derived.Test.YtphjbbbnbmafnabGreatDoorXBh
import Derived.Test.YtphjbbbnbmafnabGreatDoorXQl
import Derived.Sort.BigQuietIn
namespace Go.Proofs.YtphjbbbnbmafnabGreatDoor.G
open Go.RowKit Go.Shelf Go.Proofs.YtphjbbbnbmafnabGreatDoor.RxM

attribute [local go_sem] Oper.semAt_some
/-- one place alone -/
def one4 (p : Nat) : S4 := (if p / 64 = 0 then 2 ^ (p % 64) else 0, if p / 64 = 1 then 2 ^ (p % 64) else 0, if p / 64 = 2 then 2 ^ (p % 64) else 0, if p / 64 = 3 then 2 ^ (p % 64) else 0)
set_option maxRecDepth 100000 in
set_option maxHeartbeats 4000000 in
theorem setonly_any (p : Nat) (hp : p < 256) (w : World) : Calls Tryz.prog 54 #[.int .i64 (p : Int)] w fun e w' => e = .returned (.agg (v4 (one4 p))) ∧ Below w.heap.size w w' := by
  have he : IntKind.u64.wrap ((2 : Int) ^ (p % 64)) = ((2 ^ (p % 64) : Nat) : Int) := by
    have := Nat.pow_lt_pow_right (a := 2) (by decide) (show p % 64 < 64 by omega)
    rw [show ((2 : Int) ^ (p % 64)) = ((2 ^ (p % 64) : Nat) : Int) by rw [Int.natCast_pow]; rfl, IntKind.wrap_u64]
    generalize 2 ^ (p % 64) = m at *
    omega
  rcases (show p / 64 = 0 ∨ p / 64 = 1 ∨ p / 64 = 2 ∨ p / 64 = 3 by omega) with d | d | d | d
  all_goals
    have d2 : (p : Int) / 64 = ((p / 64 : Nat) : Int) := by omega
    rw [d] at d2
    go_enter Tryz.func54, Tryz.ntmps54
    go_wp2
    refine bodyPost_ret (results_cell_row rfl _ _ w.heap.size _ _ (0, 0) _ rfl (heap_keep (below1 _ _) (heap_alloc_new w _)) rfl rfl rfl) rfl ⟨by simp [one4, v4, d], xal (below1 _ _)⟩
theorem loop_len (s : ByteArray) : ∀ k i (r : List UInt8), s.size - i ≤ k → r.length ≤ (ByteArray.toList.loop s i r).length := by
  intro k
  induction k with
  | zero => intro i r h; unfold ByteArray.toList.loop; rw [if_neg (by omega)]; simp
  | succ k ih =>
    intro i r h
    unfold ByteArray.toList.loop
    by_cases hi : i < s.size
    · rw [if_pos hi]
      exact Nat.le_trans (by simp) (ih (i + 1) (s.get! i :: r) (by omega))
    · rw [if_neg hi]; simp
theorem bytes_ne {s : ByteArray} (hs : 0 < s.size) : ¬ s.toList = [] := by
  intro h
  have := loop_len s s.size 1 [s.get! 0] (by omega)
  unfold ByteArray.toList ByteArray.toList.loop at h
  rw [if_pos hs] at h
  rw [h] at this
  simp at this
set_option maxRecDepth 100000 in
set_option maxHeartbeats 4000000 in
theorem take_none (R c : Nat) (w : World) (h : w.cell? ⟨R, 0, none⟩ = some (.string ⟨#[]⟩)) : Calls Tryz.prog 84 #[.pointer (some ⟨R, 0, none⟩), .int .u8 (c : Int)] w fun e w' => e = .returned (.bool false) ∧ w' = w := by
  go_enter Tryz.func84, Tryz.ntmps84
  go_wp2
  go_ret
  exact ⟨rfl, rfl⟩
set_option maxRecDepth 100000 in
set_option maxHeartbeats 4000000 in
theorem take_other (R c : Nat) (s : ByteArray) (w : World) (hs : 0 < s.size) (hne : s[0].toNat ≠ c) (h : w.cell? ⟨R, 0, none⟩ = some (.string s)) : Calls Tryz.prog 84 #[.pointer (some ⟨R, 0, none⟩), .int .u8 (c : Int)] w fun e w' => e = .returned (.bool false) ∧ w' = w := by
  have h1 := bytes_ne hs
  have h2 : s.toList.isEmpty = false := by rw [Bool.eq_false_iff]; exact fun e => h1 (List.isEmpty_iff.1 e)
  have h3 : ((s[0].toNat : Int) != (c : Int)) = true := by simp; omega
  go_enter Tryz.func84, Tryz.ntmps84
  go_wp2
  go_ret
  exact ⟨rfl, rfl⟩
set_option maxRecDepth 100000 in
set_option maxHeartbeats 4000000 in
theorem take_same (R : Nat) (s : ByteArray) (w : World) (hs : 0 < s.size) (h : w.cell? ⟨R, 0, none⟩ = some (.string s)) (hf : w.frozen? ⟨R, 0, none⟩ = false) : Calls Tryz.prog 84 #[.pointer (some ⟨R, 0, none⟩), .int .u8 (s[0].toNat : Int)] w fun e w' => e = .returned (.bool true) ∧ w' = w.setCell ⟨R, 0, none⟩ (.string (s.extract 1 s.size)) := by
  have h1 := bytes_ne hs
  have h2 : s.toList.isEmpty = false := by rw [Bool.eq_false_iff]; exact fun e => h1 (List.isEmpty_iff.1 e)
  have h3 : ((s[0].toNat : Int) != (s[0].toNat : Int)) = false := by simp
  go_enter Tryz.func84, Tryz.ntmps84
  go_wp2
  go_ret
  exact ⟨rfl, rfl⟩
/-- the bytes of a text, as numbers -/
def codes (s : ByteArray) : List Nat := s.data.toList.map UInt8.toNat
theorem codes_size (s : ByteArray) : (codes s).length = s.size := by simp [codes]
theorem codes_cons {s : ByteArray} (hs : 0 < s.size) : codes s = s[0].toNat :: codes (s.extract 1 s.size) := by
  have e : (s.extract 1 s.size).data.toList = s.data.toList.drop 1 := by
    rw [ByteArray.data_extract, Array.toList_extract]
    simp only [List.extract_eq_take_drop]
    exact List.take_of_length_le (by simp)
  have h0 : 0 < s.data.toList.length := by simpa using hs
  unfold codes
  rw [e]
  have : s.data.toList = s[0] :: s.data.toList.drop 1 := List.drop_eq_getElem_cons h0
  conv => lhs; rw [this]
  rfl
/-- take: the letter is the next one, and then it is gone; or nothing is done -/
theorem take_any (R c : Nat) (s : ByteArray) (w : World) (h : w.cell? ⟨R, 0, none⟩ = some (.string s)) (hf : w.frozen? ⟨R, 0, none⟩ = false) : Calls Tryz.prog 84 #[.pointer (some ⟨R, 0, none⟩), .int .u8 (c : Int)] w fun e w' => (∃ s2 : ByteArray, codes s = c :: codes s2 ∧ s2.size + 1 = s.size ∧ e = .returned (.bool true) ∧ w' = w.setCell ⟨R, 0, none⟩ (.string s2)) ∨ ((∀ l, codes s ≠ c :: l) ∧ e = .returned (.bool false) ∧ w' = w) := by
  by_cases hs : 0 < s.size
  · by_cases hc : s[0].toNat = c
    · subst hc
      refine (take_same R s w hs h hf).mono ?_
      rintro e w' ⟨rfl, rfl⟩
      have hcs := codes_cons hs
      refine .inl ⟨_, hcs, ?_, rfl, rfl⟩
      have := congrArg List.length hcs
      rw [List.length_cons, codes_size, codes_size] at this
      exact this.symm
    · refine (take_other R c s w hs hc h).mono ?_
      rintro e w' ⟨rfl, rfl⟩
      refine .inr ⟨fun l hl => hc ?_, rfl, rfl⟩
      rw [codes_cons hs] at hl
      exact (List.cons.inj hl).1
  · have h0 : s = ⟨#[]⟩ := ByteArray.size_eq_zero_iff.1 (by omega)
    subst h0
    refine (take_none R c w h).mono ?_
    rintro e w' ⟨rfl, rfl⟩
    exact .inr ⟨fun l hl => by simp [codes] at hl, rfl, rfl⟩
/-- a list of sets, as it lies: its head at ⟨X, o⟩ -/
def SetsAt (w : World) (X o : Nat) (ss : List S4) : Prop := ∃ g off cap, w.cell? ⟨X, o, none⟩ = some (.slice (some ⟨g, off, none⟩) ss.length cap) ∧ ∀ j s, ss[j]? = some s → w.cell? ⟨g, off + j * 4, none⟩ = some (.int .u64 (s.1 : Int)) ∧ w.cell? ⟨g, off + j * 4 + 1, none⟩ = some (.int .u64 (s.2.1 : Int)) ∧ w.cell? ⟨g, off + j * 4 + 2, none⟩ = some (.int .u64 (s.2.2.1 : Int)) ∧ w.cell? ⟨g, off + j * 4 + 3, none⟩ = some (.int .u64 (s.2.2.2 : Int))
theorem SetsAt.beh {w : World} {X : Nat} {ss : List S4} (h : SetsAt w X 0 ss) : BehAt w X ss := h
set_option maxRecDepth 100000 in
set_option maxHeartbeats 4000000 in
theorem taking_any (X : Nat) (ts : List S4) (c : Nat) (t : S4) (w : World) (hX : SetsAt w X 1 ts) (ht : ts[c]? = some t) : Calls Tryz.prog 92 #[.pointer (some ⟨X, 0, none⟩), .int .i64 (c : Int)] w fun e w' => e = .returned (.agg (v4 t)) ∧ Below w.heap.size w w' := by
  obtain ⟨g, off, cap, h0, h1⟩ := hX
  obtain ⟨e0, e1, e2, e3⟩ := h1 c t ht
  have hc : c < ts.length := (List.getElem?_eq_some_iff.1 ht).1
  have hcI : (c : Int) < (ts.length : Int) := by omega
  obtain ⟨t0, t1, t2, t3⟩ := t
  simp only at e0 e1 e2 e3
  have k0 := fun o => cell_kept (below1 w o) _ _ h0
  have l0 := fun o => cell_kept (below1 w o) _ _ e0
  have l1 := fun o => cell_kept (below1 w o) _ _ e1
  have l2 := fun o => cell_kept (below1 w o) _ _ e2
  have l3 := fun o => cell_kept (below1 w o) _ _ e3
  clear h1 ht h0 e0 e1 e2 e3
  go_enter Tryz.func92, Tryz.ntmps92
  go_wp2
  exact bodyPost_ret (results_cell_row rfl _ _ w.heap.size _ _ (0, 0) _ rfl (heap_alloc_new w _) rfl rfl rfl) rfl ⟨rfl, below1 _ _⟩
set_option maxRecDepth 100000 in
set_option maxHeartbeats 4000000 in
theorem istext_any (X : Nat) (s t : S4) (hs : ok4 s) (ht : ok4 t) (w : World) (h2 : w.cell? ⟨X, 2, none⟩ = some (.int .u64 (t.1 : Int))) (h3 : w.cell? ⟨X, 3, none⟩ = some (.int .u64 (t.2.1 : Int))) (h4 : w.cell? ⟨X, 4, none⟩ = some (.int .u64 (t.2.2.1 : Int))) (h5 : w.cell? ⟨X, 5, none⟩ = some (.int .u64 (t.2.2.2 : Int))) :
    Calls Tryz.prog 59 #[.pointer (some ⟨X, 0, none⟩), .agg (v4 s)] w fun e w' => e = .returned (.bool (!(decide (s.1 &&& t.1 = 0 ∧ s.2.1 &&& t.2.1 = 0 ∧ s.2.2.1 &&& t.2.2.1 = 0 ∧ s.2.2.2 &&& t.2.2.2 = 0)))) ∧ Below w.heap.size w w' := by
  obtain ⟨s0, s1, s2, s3⟩ := s
  obtain ⟨t0, t1, t2, t3⟩ := t
  simp only [v4] at h2 h3 h4 h5 ⊢
  have HA : Hid (∀ W, Calls Tryz.prog 91 _ W _) := fun W => setand_any s0 s1 s2 s3 t0 t1 t2 t3 hs.1 hs.2.1 hs.2.2.1 hs.2.2.2 ht.1 ht.2.1 ht.2.2.1 ht.2.2.2 W
  have HE : Hid (∀ W, Calls Tryz.prog 88 _ W _) := fun W => setempty_any (s0 &&& t0) (s1 &&& t1) (s2 &&& t2) (s3 &&& t3) W
  generalize decide (s0 &&& t0 = 0 ∧ s1 &&& t1 = 0 ∧ s2 &&& t2 = 0 ∧ s3 &&& t3 = 0) = z at HE ⊢
  obtain ⟨W0, hW0⟩ : ∃ W0, W0 = w.alloc (.cells #[.int .u64 (s0 : Int), .int .u64 (s1 : Int), .int .u64 (s2 : Int), .int .u64 (s3 : Int)] 114) := ⟨_, rfl⟩
  have hJ : Below w.heap.size w W0 := by rw [hW0]; exact below1 _ _
  have r0 : W0.heap[w.heap.size]? = some (.cells #[.int .u64 (s0 : Int), .int .u64 (s1 : Int), .int .u64 (s2 : Int), .int .u64 (s3 : Int)] 114 (0, 0)) := by rw [hW0]; exact heap_alloc_new w _
  obtain ⟨⟨c0, c1, c2, c3⟩, _⟩ := row4 r0
  have u2 := fun u => ext_cell (cell_kept hJ _ _ h2) u
  have u3 := fun u => ext_cell (cell_kept hJ _ _ h3) u
  have u4 := fun u => ext_cell (cell_kept hJ _ _ h4) u
  have u5 := fun u => ext_cell (cell_kept hJ _ _ h5) u
  have d0 := fun u => ext_cell c0 u
  have d1 := fun u => ext_cell c1 u
  have d2 := fun u => ext_cell c2 u
  have d3 := fun u => ext_cell c3 u
  have HJ : Hid _ := hJ
  clear hJ r0 c0 c1 c2 c3 h2 h3 h4 h5
  go_enter Tryz.func59, Tryz.ntmps59
  go_wp2_with fail
  rw [← hW0]
  have HW0 : Hid _ := hW0
  clear hW0
  refine wp_region_ext (by kernel_rfl) (by kernel_rfl) ?_
  repeat (go_big_quiet_step (first
    | (go_at_call 91; refine (HA.out _).mono ?_; rintro r w1 ⟨rfl, hB⟩; exact ⟨rfl, w1, ext_of (chain (ext_below _ _) hB)⟩)
    | (go_at_call 88; refine (HE.out _).mono ?_; rintro r w1 ⟨rfl, hB⟩; exact ⟨rfl, w1, ext_of (chain (ext_below _ _) hB)⟩)))
  refine wpQuiet_nil ?_
  intro wx hw
  obtain ⟨u, rfl⟩ := hw
  have HB : Hid _ := chain HJ.out (ext_below W0 u)
  go_wp2
  go_ret
  exact ⟨rfl, HB.out⟩
end Go.Proofs.YtphjbbbnbmafnabGreatDoor.G

namespace Go.Proofs.YtphjbbbnbmafnabGreatDoor.G
open Go.RowKit Go.Shelf Go.Proofs.YtphjbbbnbmafnabGreatDoor.RxM

attribute [local go_sem] Oper.semAt_some
/-- sets as they lie in a row -/
def flat4 (ss : List S4) : List Value := ss.flatMap fun s => (v4 s).toList
theorem flat4_len (ss : List S4) : (flat4 ss).length = ss.length * 4 := by
  unfold flat4
  induction ss with
  | nil => rfl
  | cons s ss ih => rw [List.flatMap_cons, List.length_append, ih, List.length_cons]; simp [v4]; omega
theorem flat4_cons (s : S4) (ss : List S4) : flat4 (s :: ss) = .int .u64 (s.1 : Int) :: .int .u64 (s.2.1 : Int) :: .int .u64 (s.2.2.1 : Int) :: .int .u64 (s.2.2.2 : Int) :: flat4 ss := rfl
theorem flat4_at (ss : List S4) (j : Nat) (s : S4) (h : ss[j]? = some s) : (flat4 ss)[j * 4]? = some (.int .u64 (s.1 : Int)) ∧ (flat4 ss)[j * 4 + 1]? = some (.int .u64 (s.2.1 : Int)) ∧ (flat4 ss)[j * 4 + 2]? = some (.int .u64 (s.2.2.1 : Int)) ∧ (flat4 ss)[j * 4 + 3]? = some (.int .u64 (s.2.2.2 : Int)) := by
  induction ss generalizing j with
  | nil => simp at h
  | cons x ss ih =>
    rw [flat4_cons]
    cases j with
    | zero => simp at h; subst h; exact ⟨rfl, rfl, rfl, rfl⟩
    | succ j =>
      rw [List.getElem?_cons_succ] at h
      have := ih j h
      rw [show (j + 1) * 4 = j * 4 + 4 by omega]
      exact this
theorem flat4_set (ss : List S4) (j : Nat) (s : S4) (h : j < ss.length) : ((((flat4 ss).set (j * 4) (.int .u64 (s.1 : Int))).set (j * 4 + 1) (.int .u64 (s.2.1 : Int))).set (j * 4 + 2) (.int .u64 (s.2.2.1 : Int))).set (j * 4 + 3) (.int .u64 (s.2.2.2 : Int)) = flat4 (ss.set j s) := by
  induction ss generalizing j with
  | nil => simp at h
  | cons x ss ih =>
    rw [flat4_cons]
    cases j with
    | zero => rfl
    | succ j =>
      rw [List.set_cons_succ, flat4_cons, ← ih j (by simpa using h), show (j + 1) * 4 = j * 4 + 4 by omega]
      rfl
/-- the places of a list go on to all of a set -/
def linkAll (t : S4) (ss : List S4) (ps : List Nat) : List S4 := ps.foldl (fun a p => a.set p (or4 (a.getD p (0, 0, 0, 0)) t)) ss
theorem linkAll_snoc (t : S4) (ss : List S4) (ps : List Nat) (p : Nat) : linkAll t ss (ps ++ [p]) = (linkAll t ss ps).set p (or4 ((linkAll t ss ps).getD p (0, 0, 0, 0)) t) := by unfold linkAll; rw [List.foldl_append]; rfl
theorem linkAll_len (t : S4) (ss : List S4) (ps : List Nat) : (linkAll t ss ps).length = ss.length := by
  unfold linkAll
  induction ps generalizing ss with
  | nil => rfl
  | cons p ps ih => rw [List.foldl_cons, ih, List.length_set]
theorem linkAll_ok {t : S4} (ht : ok4 t) {ss : List S4} (h : ∀ s ∈ ss, ok4 s) (ps : List Nat) : ∀ s ∈ linkAll t ss ps, ok4 s := by
  unfold linkAll
  induction ps generalizing ss with
  | nil => exact h
  | cons p ps ih =>
    refine ih fun s hs => ?_
    rcases List.mem_or_eq_of_mem_set hs with hs | rfl
    · exact h s hs
    · exact ok4_or (ok4_getD h p) ht
/-- a row of sets of one's own -/
abbrev OwnSets (w : World) (base g cap : Nat) (ss : List S4) : Prop := w.ownsRow base 114 4 (.slice (some ⟨g, 0, none⟩) ss.length cap) ss.length (flat4 ss)
theorem own4 {W : World} {base g cap : Nat} {cu : List S4} (h : OwnSets W base g cap cu) {x : Nat} (hx : x < cu.length) (y : S4) : OwnSets ((((W.setCell ⟨g, x * 4, none⟩ (.int .u64 (y.1 : Int))).setCell ⟨g, x * 4 + 1, none⟩ (.int .u64 (y.2.1 : Int))).setCell ⟨g, x * 4 + 2, none⟩ (.int .u64 (y.2.2.1 : Int))).setCell ⟨g, x * 4 + 3, none⟩ (.int .u64 (y.2.2.2 : Int))) base g cap (cu.set x y) := by
  unfold OwnSets
  rw [List.length_set, ← flat4_set _ _ _ hx]
  exact ((((h.stored (x * 4) _).1.stored (x * 4 + 1) _).1.stored (x * 4 + 2) _).1.stored (x * 4 + 3) _).1
theorem same4 (W : World) (g i0 i1 i2 i3 : Nat) (x0 x1 x2 x3 : Value) : Same W ((((W.setCell ⟨g, i0, none⟩ x0).setCell ⟨g, i1, none⟩ x1).setCell ⟨g, i2, none⟩ x2).setCell ⟨g, i3, none⟩ x3) (fun k => k = g) :=
  ((((Same.set W ⟨g, i0, none⟩ x0).trans (Same.set _ ⟨g, i1, none⟩ x1)).trans (Same.set _ ⟨g, i2, none⟩ x2)).trans (Same.set _ ⟨g, i3, none⟩ x3)).mono fun k _ e => by rcases e with ((e | e) | e) | e <;> exact e
theorem keeps4 (n : Nat) (W : World) (g i0 i1 i2 i3 : Nat) (x0 x1 x2 x3 : Value) : KeepsFrom n W ((((W.setCell ⟨g, i0, none⟩ x0).setCell ⟨g, i1, none⟩ x1).setCell ⟨g, i2, none⟩ x2).setCell ⟨g, i3, none⟩ x3) :=
  ((((KeepsOthers.setCell W _ _).trans (KeepsOthers.setCell _ _ _)).trans (KeepsOthers.setCell _ _ _)).trans (KeepsOthers.setCell _ _ _)).from n
theorem below4 {n : Nat} {A W : World} {g : Nat} (h : Below n A W) (hg : n ≤ g) (i0 i1 i2 i3 : Nat) (x0 x1 x2 x3 : Value) : Below n A ((((W.setCell ⟨g, i0, none⟩ x0).setCell ⟨g, i1, none⟩ x1).setCell ⟨g, i2, none⟩ x2).setCell ⟨g, i3, none⟩ x3) :=
  (((h.setCell (p := ⟨g, i0, none⟩) hg x0).setCell (p := ⟨g, i1, none⟩) hg x1).setCell (p := ⟨g, i2, none⟩) hg x2).setCell (p := ⟨g, i3, none⟩) hg x3
theorem other4 {W : World} {g X : Nat} {y : Obj} (h : W.heap[X]? = some y) (hne : X ≠ g) (i0 i1 i2 i3 : Nat) (x0 x1 x2 x3 : Value) : ((((W.setCell ⟨g, i0, none⟩ x0).setCell ⟨g, i1, none⟩ x1).setCell ⟨g, i2, none⟩ x2).setCell ⟨g, i3, none⟩ x3).heap[X]? = some y :=
  xset_other _ g i3 X x3 (xset_other _ g i2 X x2 (xset_other _ g i1 X x1 (xset_other W g i0 X x0 h hne) hne) hne) hne
set_option maxRecDepth 100000 in
set_option maxHeartbeats 16000000 in
theorem link_in (R X base g cap : Nat) (ss : List S4) (hss : ∀ s ∈ ss, ok4 s) (s t : S4) (hs : ok4 s) (ht : ok4 t) (w : World) (hR : w.cell? ⟨R, 2, none⟩ = some (.pointer (some ⟨X, 0, none⟩))) (hX : w.cell? ⟨X, 0, none⟩ = some (.slice (some ⟨g, 0, none⟩) ss.length cap)) (hRg : R ≠ g) (hXg : X ≠ g) (hrow : OwnSets w base g cap ss)
    (hin : ∀ p ∈ plTo s.1 s.2.1 s.2.2.1 s.2.2.2 4, p < ss.length) (hT : TzAt w) (hb0 : 0 < base) :
    CallsIn Fence.wide 9 Tryz.prog 86 #[.pointer (some ⟨R, 0, none⟩), .agg (v4 s), .agg (v4 t)] w fun e w' => e = .returned (.tuple #[]) ∧ OwnSets w' base g cap (linkAll t ss (plTo s.1 s.2.1 s.2.2.1 s.2.2.2 4)) ∧ Same w w' (fun k => k = g) ∧ Below base w w' := by
  obtain ⟨a, b, c, d⟩ := s
  obtain ⟨t0, t1, t2, t3⟩ := t
  simp only [v4] at hin ⊢
  obtain ⟨ha, hb, hc, hd⟩ := hs
  simp only at ha hb hc hd
  have hg := hrow.lt g rfl
  have HPl : Hid (∀ W, CallsIn Fence.wide 8 Tryz.prog 109 #[.agg #[.int .u64 (a : Int), .int .u64 (b : Int), .int .u64 (c : Int), .int .u64 (d : Int)]] W _) := (fun W => callsIn_wide.2 (places_any (a, b, c, d) W) : ∀ W, _)
  have HRow : Hid _ := hrow
  have HR : Hid _ := hR
  have HX : Hid _ := hX
  have HT : Hid _ := hT
  clear hrow hR hX hT
  refine callsIn_of_wp_marks Tryz.func86 rfl trivial ?_ rfl
  simp only [Tryz.ntmps86, List.size_toArray, List.length_cons, List.length_nil, Nat.reduceAdd, Nat.reduceSub, Array.replicate_succ, Array.replicate_zero, List.push_toArray, List.append_toArray, List.nil_append, List.cons_append]
  gi_wp2_with fail
  obtain ⟨W4, hW4⟩ : ∃ W4, W4 = ((w.alloc (.cells #[.pointer (some ⟨R, 0, none⟩)] 108)).alloc (.cells #[.int .u64 (a : Int), .int .u64 (b : Int), .int .u64 (c : Int), .int .u64 (d : Int)] 114)).alloc (.cells #[.int .u64 (t0 : Int), .int .u64 (t1 : Int), .int .u64 (t2 : Int), .int .u64 (t3 : Int)] 114) := ⟨_, rfl⟩
  rw [← hW4]
  have hs4 : W4.heap.size = w.heap.size + 1 + 1 + 1 := by rw [hW4]; simp
  have hJ : Below w.heap.size w W4 := by rw [hW4]; exact xal (xal (below1 _ _))
  have r2 : W4.heap[w.heap.size]? = some (.cells #[.pointer (some ⟨R, 0, none⟩)] 108 (0, 0)) := by rw [hW4]; exact heap_keep (below1 _ _) (heap_keep (below1 _ _) (heap_alloc_new w _))
  have r4 : W4.heap[w.heap.size + 1 + 1]? = some (.cells #[.int .u64 (t0 : Int), .int .u64 (t1 : Int), .int .u64 (t2 : Int), .int .u64 (t3 : Int)] 114 (0, 0)) := by
    rw [hW4]
    have := heap_alloc_new ((w.alloc (.cells #[.pointer (some ⟨R, 0, none⟩)] 108)).alloc (.cells #[.int .u64 (a : Int), .int .u64 (b : Int), .int .u64 (c : Int), .int .u64 (d : Int)] 114)) (.cells #[.int .u64 (t0 : Int), .int .u64 (t1 : Int), .int .u64 (t2 : Int), .int .u64 (t3 : Int)] 114)
    rwa [World.size_alloc, World.size_alloc] at this
  have HW4 : Hid _ := hW4
  clear hW4
  refine ⟨trivial, (HPl.out W4).mono ?_⟩
  rintro e W5 ⟨rfl, hW5⟩
  have hJ5 : Below W4.heap.size W4 W5 := by rw [hW5]; exact below1 _ _
  have r8 : W5.heap[w.heap.size + 1 + 1 + 1]? = some (.cells #[.int .u64 (a : Int), .int .u64 (b : Int), .int .u64 (c : Int), .int .u64 (d : Int)] 114 (0, 0)) := by rw [hW5, ← hs4]; exact heap_alloc_new W4 _
  have hB5 := chain hJ hJ5
  have q2 := heap_keep hJ5 r2
  have q4 := heap_keep hJ5 r4
  have hs5 : w.heap.size + 1 + 1 + 1 ≤ W5.heap.size := by have := hJ5.size; omega
  rw [hs4]
  clear hW5 hJ hJ5 r2 r4 HPl
  gi_wp2
  refine wpIn_rangeFunc_ownH rfl (by decide) (gf := 130) (lb := #[.pointer (some ⟨w.heap.size + 1 + 1 + 1, 0, none⟩)]) rfl trivial (enters_of Tryz.func130 (by kernel_rfl) rfl)
    (places_stops 8 (w.heap.size + 1 + 1 + 1) base a b c d ha hb hc hd W5 hb0 (TzAt.below (w := w) HT.out hB5) r8) belowK_t (belowK_b (by omega)) (Below.refl _ _) (fun _ => rfl)
    (fun (pre : List { x : Nat // x ∈ plTo a b c d 4 }) W => OwnSets W base g cap (linkAll (t0, t1, t2, t3) ss (pre.map Subtype.val)) ∧ W.heap[w.heap.size]? = some (.cells #[.pointer (some ⟨R, 0, none⟩)] 108 (0, 0)) ∧ W.heap[w.heap.size + 1 + 1]? = some (.cells #[.int .u64 (t0 : Int), .int .u64 (t1 : Int), .int .u64 (t2 : Int), .int .u64 (t3 : Int)] 114 (0, 0)) ∧ Same w W (fun k => k = g) ∧ Below base w W)
    (fun _ _ _ => False)
    (fun _ W W' row ⟨h1, h2, h3, h4, h5⟩ hg2 hr => ⟨h1.kept hg2 (.inr fun e => by have := (hr g e.symm).1; omega), own_row h2 hg2 (fun r e => (hr r e).2), own_row h3 hg2 (fun r e => (hr r e).2), (h4.trans (Same.grown hg2)).mono (fun k hk e => e.elim id (fun e => by have := (hr k e).1; omega)), h5.grown hg2 (by have := h5.size; omega) (fun r e => by have := (hr r e).1; omega)⟩)
    (fun _ _ _ _ _ hs _ _ => hs)
    ⟨own_same HRow.out (Same.below hB5) (fun _ _ e => e), q2, q4, (Same.below hB5).mono (fun _ _ e => e.elim), hB5.mono (by omega)⟩
    (fun x a' _ => a' = { tmps := #[.pointer (some ⟨R, 0, none⟩), .agg #[.int .u64 (a : Int), .int .u64 (b : Int), .int .u64 (c : Int), .int .u64 (d : Int)], .agg #[.int .u64 (t0 : Int), .int .u64 (t1 : Int), .int .u64 (t2 : Int), .int .u64 (t3 : Int)], .pointer (some ⟨w.heap.size, 0, none⟩), .pointer (some ⟨w.heap.size + 1, 0, none⟩), .pointer (some ⟨w.heap.size + 1 + 1, 0, none⟩), .int .i64 (x.1 : Int), .agg #[.int .u64 (a : Int), .int .u64 (b : Int), .int .u64 (c : Int), .int .u64 (d : Int)], .func (.func 130) #[] #[.pointer (some ⟨w.heap.size + 1 + 1 + 1, 0, none⟩)], .int .i64 (x.1 : Int), undef, undef, undef, undef, undef, undef, undef, undef, undef, undef, undef, undef, undef, undef, undef, undef, undef, undef, undef, undef, undef], defers := [] })
    (fun _ _ _ _ _ _ hs _ _ => hs)
    ?assign ?body ?done ?stop
  case assign =>
    rintro l pre x W K hI hK
    gi_wp2
    exact hK _ _ (KeepsFrom.refl _ _) (Below.refl _ _) hI rfl
  case body =>
    rintro l pre ⟨x, hx⟩ a' W hl ⟨r, hr⟩ ⟨iR, i2, i4, iS, iB⟩ rfl hlt
    have hok := linkAll_ok ht hss (pre.map Subtype.val)
    have hxl : x < (linkAll (t0, t1, t2, t3) ss (pre.map Subtype.val)).length := by rw [linkAll_len]; exact hin x hx
    have hsn : linkAll (t0, t1, t2, t3) ss ((pre ++ [(⟨x, hx⟩ : { x : Nat // x ∈ plTo a b c d 4 })]).map Subtype.val) = (linkAll (t0, t1, t2, t3) ss (pre.map Subtype.val)).set x (or4 ((linkAll (t0, t1, t2, t3) ss (pre.map Subtype.val)).getD x (0, 0, 0, 0)) (t0, t1, t2, t3)) := by
      rw [List.map_append, List.map_cons, List.map_nil, linkAll_snoc]
    have hlen := linkAll_len (t0, t1, t2, t3) ss (pre.map Subtype.val)
    have HSn : Hid _ := hsn
    clear hsn
    generalize linkAll (t0, t1, t2, t3) ss (pre.map Subtype.val) = cu at iR hok hxl HSn hlen
    obtain ⟨q, hq⟩ : ∃ q, cu[x]? = some q := ⟨_, List.getElem?_eq_getElem hxl⟩
    have hqok := hok q (List.mem_of_getElem? hq)
    have hqd : cu.getD x (0, 0, 0, 0) = q := by rw [List.getD_eq_getElem?_getD, hq]; rfl
    obtain ⟨q0, q1, q2, q3⟩ := q
    obtain ⟨f0, f1, f2, f3⟩ := flat4_at cu x _ hq
    have hx4 : x * 4 + 3 < cu.length * 4 := by omega
    have e0 := (iR.cellAt (x * 4) (by omega)).trans f0
    have e1 := (iR.cellAt (x * 4 + 1) (by omega)).trans f1
    have e2 := (iR.cellAt (x * 4 + 2) (by omega)).trans f2
    have e3 := (iR.cellAt (x * 4 + 3) (by omega)).trans f3
    simp only at e0 e1 e2 e3
    have HOr : Hid (∀ W, Calls Tryz.prog 85 _ W _) := fun W => setor_any q0 q1 q2 q3 t0 t1 t2 t3 hqok.1 hqok.2.1 hqok.2.2.1 hqok.2.2.2 ht.1 ht.2.1 ht.2.2.1 ht.2.2.2 W
    obtain ⟨⟨c0, c1, c2, c3⟩, _⟩ := row4 i4
    have p2 : W.cell? ⟨w.heap.size, 0, none⟩ = some (.pointer (some ⟨R, 0, none⟩)) := by rw [cell_of_row _ _ 0 _ _ _ i2]; rfl
    have pR := iS.cell HR.out hRg
    have pX := iS.cell HX.out hXg
    rw [← hlen] at pX
    have hxI : (x : Int) < (cu.length : Int) := by omega
    have HI : Hid (_ ∧ _ ∧ _ ∧ _ ∧ _) := ⟨iR, i2, i4, iS, iB⟩
    have HQ : Hid (_ ∧ _) := ⟨hqd, hxl⟩
    clear iR i2 i4 iS iB hq hqok hok f0 f1 f2 f3 hqd hin hss ht hx4 hlen
    simp only
    have u2 := fun u => ext_cell p2 u
    have uR := fun u => ext_cell pR u
    have uX := fun u => ext_cell pX u
    have y0 := fun u => ext_cell e0 u
    have y1 := fun u => ext_cell e1 u
    have y2 := fun u => ext_cell e2 u
    have y3 := fun u => ext_cell e3 u
    have d0 := fun u => ext_cell c0 u
    have d1 := fun u => ext_cell c1 u
    have d2 := fun u => ext_cell c2 u
    have d3 := fun u => ext_cell c3 u
    clear p2 pR pX e0 e1 e2 e3 c0 c1 c2 c3
    gi_wp2_with fail
    refine region_round_last rfl (by kernel_rfl) (by kernel_rfl) (by kernel_rfl) ?_
    simp only [List.dropLast]
    repeat (gi_big_quiet_step (first
      | (gi_at_call 85; refine ⟨trivial, (callsIn_wide.2 (HOr.out _)).mono ?_⟩; rintro r w1 ⟨rfl, hB⟩; exact ⟨rfl, w1, ext_of (chain (ext_below _ _) hB)⟩)
      | (gi_at_call 85; refine (callsIn_wide.2 (HOr.out _)).mono ?_; rintro r w1 ⟨rfl, hB⟩; exact ⟨rfl, w1, ext_of (chain (ext_below _ _) hB)⟩)))
    refine wpQuietIn_step (by intros; intro; intros; trivial) (fun K hK => ?_)
    rw [if_pos (show Region.wanted _ _ = true from rfl)]
    gi_big_quiet_op
    apply Exists.intro
    refine ⟨fun u => ?_, ?_⟩
    · first
        | (refine ⟨fun h => by cases h, (callsIn_wide.2 (HOr.out _)).mono ?_⟩; rintro r w1 ⟨rfl, hB⟩; exact ⟨rfl, w1, ext_of (chain (ext_below _ _) hB)⟩)
        | (refine ⟨trivial, (callsIn_wide.2 (HOr.out _)).mono ?_⟩; rintro r w1 ⟨rfl, hB⟩; exact ⟨rfl, w1, ext_of (chain (ext_below _ _) hB)⟩)
        | (refine (callsIn_wide.2 (HOr.out _)).mono ?_; rintro r w1 ⟨rfl, hB⟩; exact ⟨rfl, w1, ext_of (chain (ext_below _ _) hB)⟩)
    refine hK _ ?_
    clear hK K
    repeat (gi_big_quiet_step (fail))
    refine wpQuietIn_nil ?_
    rintro wx ⟨u, rfl⟩
    have hB1 := ext_below W u
    have hO := own_same HI.out.1 (Same.below hB1) (fun _ _ e => e)
    have z0 := hO.frozenAt (x * 4)
    have z1 := hO.frozenAt (x * 4 + 1)
    have z2 := hO.frozenAt (x * 4 + 2)
    have z3 := hO.frozenAt (x * 4 + 3)
    have HO : Hid _ := hO
    have HB1 : Hid _ := hB1
    clear hO hB1
    simp only [List.getLast]
    refine ⟨by intros; trivial, ?_⟩
    go_simp
    have hbW : base ≤ W.heap.size := by have := HI.out.2.2.2.1.1; omega
    have hK : Below base W (ext W u) := HB1.out.mono hbW
    exact ⟨(keepsFrom_below HB1.out).trans (keeps4 _ _ _ _ _ _ _ _ _ _ _), below4 hK hg.1 _ _ _ _ _ _ _ _, by rw [HSn.out, HQ.out.1]; exact own4 HO.out HQ.out.2 (or4 (q0, q1, q2, q3) (t0, t1, t2, t3)), other4 (heap_keep HB1.out HI.out.2.1) (by omega) _ _ _ _ _ _ _ _, other4 (heap_keep HB1.out HI.out.2.2.1) (by omega) _ _ _ _ _ _ _ _, ((HI.out.2.2.2.1.trans (Same.below HB1.out)).trans (same4 _ _ _ _ _ _ _ _ _ _)).mono (fun k _ e => by rcases e with (e | e) | e <;> first | exact e | exact e.elim), below4 (HI.out.2.2.2.2.trans hK) hg.1 _ _ _ _ _ _ _ _⟩
  case done =>
    rintro D ys W hD hys ⟨iR, i2, i4, iS, iB⟩ hK
    rw [hys] at iR
    have HI : Hid (_ ∧ _ ∧ _) := ⟨iR, iS, iB⟩
    clear iR i2 i4 iS iB hys
    gi_wp2
    refine ⟨by simp, .inl ⟨_, _, rfl, run_takeDeferred hK, ?_⟩⟩
    have hgD : g ≠ D := by omega
    have hg3 := grownBy_putObj' W D (.deferred none)
    exact ⟨_, results_none rfl _ _ _, rfl, HI.out.1.kept hg3 (.inr fun e => hgD (Option.some.inj e)), (HI.out.2.1.trans (Same.grown hg3)).mono (fun k hk e => e.elim id (fun e => by cases e; omega)), HI.out.2.2.trans (belowK_b (w := w) (by omega) W D _ _ (by omega) hK rfl rfl)⟩
  case stop =>
    rintro D c pre W _ _ h _
    exact h.elim
/-- link: the places of one set go on to all of another -/
theorem link_any (R X base g cap : Nat) (ss : List S4) (hss : ∀ s ∈ ss, ok4 s) (s t : S4) (hs : ok4 s) (ht : ok4 t) (w : World) (hR : w.cell? ⟨R, 2, none⟩ = some (.pointer (some ⟨X, 0, none⟩))) (hX : w.cell? ⟨X, 0, none⟩ = some (.slice (some ⟨g, 0, none⟩) ss.length cap)) (hRg : R ≠ g) (hXg : X ≠ g) (hrow : OwnSets w base g cap ss)
    (hin : ∀ p ∈ plTo s.1 s.2.1 s.2.2.1 s.2.2.2 4, p < ss.length) (hT : TzAt w) (hb0 : 0 < base) :
    Calls Tryz.prog 86 #[.pointer (some ⟨R, 0, none⟩), .agg (v4 s), .agg (v4 t)] w fun e w' => e = .returned (.tuple #[]) ∧ OwnSets w' base g cap (linkAll t ss (plTo s.1 s.2.1 s.2.2.1 s.2.2.2 4)) ∧ Same w w' (fun k => k = g) ∧ Below base w w' :=
  callsIn_wide.1 (link_in R X base g cap ss hss s t hs ht w hR hX hRg hXg hrow hin hT hb0)
end Go.Proofs.YtphjbbbnbmafnabGreatDoor.G
