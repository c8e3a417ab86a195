/-
  One place alone (expr.only); the reader's next byte (take); Expr.Taking and Expr.IsText.
-/
import Derived.Test.YtphjbbbnbmafnabGreatDoorXBh
import Derived.Test.YtphjbbbnbmafnabGreatDoorExt
namespace Go.Proofs.YtphjbbbnbmafnabGreatDoor.G
open Go.RowKit Go.Shelf Go.Proofs.YtphjbbbnbmafnabGreatDoor.RxM

attribute [local go_sem] Oper.semAt_some
/-- one place alone -/
def one4 (p : Nat) : S4 := (if p / 64 = 0 then 2 ^ (p % 64) else 0, if p / 64 = 1 then 2 ^ (p % 64) else 0, if p / 64 = 2 then 2 ^ (p % 64) else 0, if p / 64 = 3 then 2 ^ (p % 64) else 0)
set_option maxRecDepth 100000 in
set_option maxHeartbeats 4000000 in
theorem setonly_any (p : Nat) (hp : p < 256) (w : World) : Calls Tryz.prog 54 #[.int .i64 (p : Int)] w fun e w' => e = .returned (.agg (v4 (one4 p))) ∧ Below w.heap.size w w' := by
  have he : IntKind.u64.wrap ((2 : Int) ^ (p % 64)) = ((2 ^ (p % 64) : Nat) : Int) := by
    have := Nat.pow_lt_pow_right (a := 2) (by decide) (show p % 64 < 64 by omega)
    rw [show ((2 : Int) ^ (p % 64)) = ((2 ^ (p % 64) : Nat) : Int) by rw [Int.natCast_pow]; rfl, IntKind.wrap_u64]
    generalize 2 ^ (p % 64) = m at *
    omega
  rcases (show p / 64 = 0 ∨ p / 64 = 1 ∨ p / 64 = 2 ∨ p / 64 = 3 by omega) with d | d | d | d
  all_goals
    have d2 : (p : Int) / 64 = ((p / 64 : Nat) : Int) := by omega
    rw [d] at d2
    go_enter Tryz.func54, Tryz.ntmps54
    go_wp2
    refine bodyPost_ret (results_cell_row rfl _ _ w.heap.size _ _ (0, 0) _ rfl (heap_keep (below1 _ _) (heap_alloc_new w _)) rfl rfl rfl) rfl ⟨by simp [one4, v4, d], xal (below1 _ _)⟩
theorem loop_len (s : ByteArray) : ∀ k i (r : List UInt8), s.size - i ≤ k → r.length ≤ (ByteArray.toList.loop s i r).length := by
  intro k
  induction k with
  | zero => intro i r h; unfold ByteArray.toList.loop; rw [if_neg (by omega)]; simp
  | succ k ih =>
    intro i r h
    unfold ByteArray.toList.loop
    by_cases hi : i < s.size
    · rw [if_pos hi]
      exact Nat.le_trans (by simp) (ih (i + 1) (s.get! i :: r) (by omega))
    · rw [if_neg hi]; simp
theorem bytes_ne {s : ByteArray} (hs : 0 < s.size) : ¬ s.toList = [] := by
  intro h
  have := loop_len s s.size 1 [s.get! 0] (by omega)
  unfold ByteArray.toList ByteArray.toList.loop at h
  rw [if_pos hs] at h
  rw [h] at this
  simp at this
set_option maxRecDepth 100000 in
set_option maxHeartbeats 4000000 in
theorem take_none (R c : Nat) (w : World) (h : w.cell? ⟨R, 0, none⟩ = some (.string ⟨#[]⟩)) : Calls Tryz.prog 84 #[.pointer (some ⟨R, 0, none⟩), .int .u8 (c : Int)] w fun e w' => e = .returned (.bool false) ∧ w' = w := by
  go_enter Tryz.func84, Tryz.ntmps84
  go_wp2
  go_ret
  exact ⟨rfl, rfl⟩
set_option maxRecDepth 100000 in
set_option maxHeartbeats 4000000 in
theorem take_other (R c : Nat) (s : ByteArray) (w : World) (hs : 0 < s.size) (hne : s[0].toNat ≠ c) (h : w.cell? ⟨R, 0, none⟩ = some (.string s)) : Calls Tryz.prog 84 #[.pointer (some ⟨R, 0, none⟩), .int .u8 (c : Int)] w fun e w' => e = .returned (.bool false) ∧ w' = w := by
  have h1 := bytes_ne hs
  have h2 : s.toList.isEmpty = false := by rw [Bool.eq_false_iff]; exact fun e => h1 (List.isEmpty_iff.1 e)
  have h3 : ((s[0].toNat : Int) != (c : Int)) = true := by simp; omega
  go_enter Tryz.func84, Tryz.ntmps84
  go_wp2
  go_ret
  exact ⟨rfl, rfl⟩
set_option maxRecDepth 100000 in
set_option maxHeartbeats 4000000 in
theorem take_same (R : Nat) (s : ByteArray) (w : World) (hs : 0 < s.size) (h : w.cell? ⟨R, 0, none⟩ = some (.string s)) (hf : w.frozen? ⟨R, 0, none⟩ = false) : Calls Tryz.prog 84 #[.pointer (some ⟨R, 0, none⟩), .int .u8 (s[0].toNat : Int)] w fun e w' => e = .returned (.bool true) ∧ w' = w.setCell ⟨R, 0, none⟩ (.string (s.extract 1 s.size)) := by
  have h1 := bytes_ne hs
  have h2 : s.toList.isEmpty = false := by rw [Bool.eq_false_iff]; exact fun e => h1 (List.isEmpty_iff.1 e)
  have h3 : ((s[0].toNat : Int) != (s[0].toNat : Int)) = false := by simp
  go_enter Tryz.func84, Tryz.ntmps84
  go_wp2
  go_ret
  exact ⟨rfl, rfl⟩
/-- the bytes of a text, as numbers -/
def codes (s : ByteArray) : List Nat := s.data.toList.map UInt8.toNat
theorem codes_size (s : ByteArray) : (codes s).length = s.size := by simp [codes]
theorem codes_cons {s : ByteArray} (hs : 0 < s.size) : codes s = s[0].toNat :: codes (s.extract 1 s.size) := by
  have e : (s.extract 1 s.size).data.toList = s.data.toList.drop 1 := by
    rw [ByteArray.data_extract, Array.toList_extract]
    simp only [List.extract_eq_take_drop]
    exact List.take_of_length_le (by simp)
  have h0 : 0 < s.data.toList.length := by simpa using hs
  unfold codes
  rw [e]
  have : s.data.toList = s[0] :: s.data.toList.drop 1 := List.drop_eq_getElem_cons h0
  conv => lhs; rw [this]
  rfl
/-- take: the letter is the next one, and then it is gone; or nothing is done -/
theorem take_any (R c : Nat) (s : ByteArray) (w : World) (h : w.cell? ⟨R, 0, none⟩ = some (.string s)) (hf : w.frozen? ⟨R, 0, none⟩ = false) : Calls Tryz.prog 84 #[.pointer (some ⟨R, 0, none⟩), .int .u8 (c : Int)] w fun e w' => (∃ s2 : ByteArray, codes s = c :: codes s2 ∧ s2.size + 1 = s.size ∧ e = .returned (.bool true) ∧ w' = w.setCell ⟨R, 0, none⟩ (.string s2)) ∨ ((∀ l, codes s ≠ c :: l) ∧ e = .returned (.bool false) ∧ w' = w) := by
  by_cases hs : 0 < s.size
  · by_cases hc : s[0].toNat = c
    · subst hc
      refine (take_same R s w hs h hf).mono ?_
      rintro e w' ⟨rfl, rfl⟩
      have hcs := codes_cons hs
      refine .inl ⟨_, hcs, ?_, rfl, rfl⟩
      have := congrArg List.length hcs
      rw [List.length_cons, codes_size, codes_size] at this
      exact this.symm
    · refine (take_other R c s w hs hc h).mono ?_
      rintro e w' ⟨rfl, rfl⟩
      refine .inr ⟨fun l hl => hc ?_, rfl, rfl⟩
      rw [codes_cons hs] at hl
      exact (List.cons.inj hl).1
  · have h0 : s = ⟨#[]⟩ := ByteArray.size_eq_zero_iff.1 (by omega)
    subst h0
    refine (take_none R c w h).mono ?_
    rintro e w' ⟨rfl, rfl⟩
    exact .inr ⟨fun l hl => by simp [codes] at hl, rfl, rfl⟩
/-- a list of sets, as it lies: its head at ⟨X, o⟩ -/
def SetsAt (w : World) (X o : Nat) (ss : List S4) : Prop := ∃ g off cap, w.cell? ⟨X, o, none⟩ = some (.slice (some ⟨g, off, none⟩) ss.length cap) ∧ ∀ j s, ss[j]? = some s → w.cell? ⟨g, off + j * 4, none⟩ = some (.int .u64 (s.1 : Int)) ∧ w.cell? ⟨g, off + j * 4 + 1, none⟩ = some (.int .u64 (s.2.1 : Int)) ∧ w.cell? ⟨g, off + j * 4 + 2, none⟩ = some (.int .u64 (s.2.2.1 : Int)) ∧ w.cell? ⟨g, off + j * 4 + 3, none⟩ = some (.int .u64 (s.2.2.2 : Int))
theorem SetsAt.beh {w : World} {X : Nat} {ss : List S4} (h : SetsAt w X 0 ss) : BehAt w X ss := h
set_option maxRecDepth 100000 in
set_option maxHeartbeats 4000000 in
theorem taking_any (X : Nat) (ts : List S4) (c : Nat) (t : S4) (w : World) (hX : SetsAt w X 1 ts) (ht : ts[c]? = some t) : Calls Tryz.prog 92 #[.pointer (some ⟨X, 0, none⟩), .int .i64 (c : Int)] w fun e w' => e = .returned (.agg (v4 t)) ∧ Below w.heap.size w w' := by
  obtain ⟨g, off, cap, h0, h1⟩ := hX
  obtain ⟨e0, e1, e2, e3⟩ := h1 c t ht
  have hc : c < ts.length := (List.getElem?_eq_some_iff.1 ht).1
  have hcI : (c : Int) < (ts.length : Int) := by omega
  obtain ⟨t0, t1, t2, t3⟩ := t
  simp only at e0 e1 e2 e3
  have k0 := fun o => cell_kept (below1 w o) _ _ h0
  have l0 := fun o => cell_kept (below1 w o) _ _ e0
  have l1 := fun o => cell_kept (below1 w o) _ _ e1
  have l2 := fun o => cell_kept (below1 w o) _ _ e2
  have l3 := fun o => cell_kept (below1 w o) _ _ e3
  clear h1 ht h0 e0 e1 e2 e3
  go_enter Tryz.func92, Tryz.ntmps92
  go_wp2
  exact bodyPost_ret (results_cell_row rfl _ _ w.heap.size _ _ (0, 0) _ rfl (heap_alloc_new w _) rfl rfl rfl) rfl ⟨rfl, below1 _ _⟩
set_option maxRecDepth 100000 in
set_option maxHeartbeats 4000000 in
theorem istext_any (X : Nat) (s t : S4) (hs : ok4 s) (ht : ok4 t) (w : World) (h2 : w.cell? ⟨X, 2, none⟩ = some (.int .u64 (t.1 : Int))) (h3 : w.cell? ⟨X, 3, none⟩ = some (.int .u64 (t.2.1 : Int))) (h4 : w.cell? ⟨X, 4, none⟩ = some (.int .u64 (t.2.2.1 : Int))) (h5 : w.cell? ⟨X, 5, none⟩ = some (.int .u64 (t.2.2.2 : Int))) :
    Calls Tryz.prog 59 #[.pointer (some ⟨X, 0, none⟩), .agg (v4 s)] w fun e w' => e = .returned (.bool (!(decide (s.1 &&& t.1 = 0 ∧ s.2.1 &&& t.2.1 = 0 ∧ s.2.2.1 &&& t.2.2.1 = 0 ∧ s.2.2.2 &&& t.2.2.2 = 0)))) ∧ Below w.heap.size w w' := by
  obtain ⟨s0, s1, s2, s3⟩ := s
  obtain ⟨t0, t1, t2, t3⟩ := t
  simp only [v4] at h2 h3 h4 h5 ⊢
  have HA : Hid (∀ W, Calls Tryz.prog 91 _ W _) := fun W => setand_any s0 s1 s2 s3 t0 t1 t2 t3 hs.1 hs.2.1 hs.2.2.1 hs.2.2.2 ht.1 ht.2.1 ht.2.2.1 ht.2.2.2 W
  have HE : Hid (∀ W, Calls Tryz.prog 88 _ W _) := fun W => setempty_any (s0 &&& t0) (s1 &&& t1) (s2 &&& t2) (s3 &&& t3) W
  generalize decide (s0 &&& t0 = 0 ∧ s1 &&& t1 = 0 ∧ s2 &&& t2 = 0 ∧ s3 &&& t3 = 0) = z at HE ⊢
  obtain ⟨W0, hW0⟩ : ∃ W0, W0 = w.alloc (.cells #[.int .u64 (s0 : Int), .int .u64 (s1 : Int), .int .u64 (s2 : Int), .int .u64 (s3 : Int)] 114) := ⟨_, rfl⟩
  have hJ : Below w.heap.size w W0 := by rw [hW0]; exact below1 _ _
  have r0 : W0.heap[w.heap.size]? = some (.cells #[.int .u64 (s0 : Int), .int .u64 (s1 : Int), .int .u64 (s2 : Int), .int .u64 (s3 : Int)] 114 (0, 0)) := by rw [hW0]; exact heap_alloc_new w _
  obtain ⟨⟨c0, c1, c2, c3⟩, _⟩ := row4 r0
  have u2 := fun u => ext_cell (cell_kept hJ _ _ h2) u
  have u3 := fun u => ext_cell (cell_kept hJ _ _ h3) u
  have u4 := fun u => ext_cell (cell_kept hJ _ _ h4) u
  have u5 := fun u => ext_cell (cell_kept hJ _ _ h5) u
  have d0 := fun u => ext_cell c0 u
  have d1 := fun u => ext_cell c1 u
  have d2 := fun u => ext_cell c2 u
  have d3 := fun u => ext_cell c3 u
  have HJ : Hid _ := hJ
  clear hJ r0 c0 c1 c2 c3 h2 h3 h4 h5
  go_enter Tryz.func59, Tryz.ntmps59
  go_wp2_with fail
  rw [← hW0]
  have HW0 : Hid _ := hW0
  clear hW0
  refine wp_region_ext (by kernel_rfl) (by kernel_rfl) ?_
  repeat (go_big_quiet_step (first
    | (go_at_call 91; refine (HA.out _).mono ?_; rintro r w1 ⟨rfl, hB⟩; exact ⟨rfl, w1, ext_of (chain (ext_below _ _) hB)⟩)
    | (go_at_call 88; refine (HE.out _).mono ?_; rintro r w1 ⟨rfl, hB⟩; exact ⟨rfl, w1, ext_of (chain (ext_below _ _) hB)⟩)))
  refine wpQuiet_nil ?_
  intro wx hw
  obtain ⟨u, rfl⟩ := hw
  have HB : Hid _ := chain HJ.out (ext_below W0 u)
  go_wp2
  go_ret
  exact ⟨rfl, HB.out⟩
end Go.Proofs.YtphjbbbnbmafnabGreatDoor.G
