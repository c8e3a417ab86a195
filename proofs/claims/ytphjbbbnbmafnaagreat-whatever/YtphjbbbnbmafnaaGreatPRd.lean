/-
  The program's reader of a text of bits (reader.bit, number, size): what it reads, and where it stands then; only the reader's own block is written.
-/
import Derived.Test.YtphjbbbnbmafnaaGreatByts
import Derived.Test.YtphjbbbnbmafnaaGreatComp
namespace Go.Proofs.YtphjbbbnbmafnaaGreat.G
open Go.RowKit

/-- a reader as it lies -/
def Rd (b : Nat) (t : List Bool) (a : Nat) (w : World) : Prop := w.heap[b]? = some (.cells #[.string (txt t), .int .i64 (a : Int)] 78 (0, 0))
theorem gb_refl (w : World) (row : Option Nat) : w.grownBy w row := ⟨rfl, rfl, rfl, Nat.le_refl _, fun _ _ _ => rfl⟩
theorem gb_dn (w w' : World) (row : Option Nat) (h : w.grownBy w' row) (n : Nat) : w.grownBy (w'.drewN n) row := ⟨h.os, h.tape, h.output, h.size, h.block⟩
theorem rd_kept {b : Nat} {t : List Bool} {a : Nat} {w w' : World} {row : Option Nat} (h : Rd b t a w) (hg : w.grownBy w' row) (hne : some b ≠ row) : Rd b t a w' := (hg.block b ((Array.getElem?_eq_some_iff.1 h).1) hne).trans h
theorem rd_cells {b : Nat} {t : List Bool} {a : Nat} {w : World} (h : Rd b t a w) : w.cell? ⟨b, 0, none⟩ = some (.string (txt t)) ∧ w.cell? ⟨b, 1, none⟩ = some (.int .i64 (a : Int)) ∧ w.frozen? ⟨b, 1, none⟩ = false := by
  refine ⟨by rw [cell_of_row w b 0 _ _ _ h]; rfl, by rw [cell_of_row w b 1 _ _ _ h]; rfl, ?_⟩
  exact frozen_of_row w b 1 _ _ h
/-- where a reader stands behind one bit -/
def nx (t : List Bool) (a : Nat) : Nat := if a < t.length then a + 1 else a
set_option maxHeartbeats 1000000 in
set_option maxRecDepth 100000 in
theorem rdbit_any (b : Nat) (t : List Bool) (a : Nat) (w : World) (h : Rd b t a w) (ht : t.length ≤ 100000000) (ha : a ≤ t.length) :
    Calls Tryz.prog 65 #[.pointer (some ⟨b, 0, none⟩)] w fun e w' => e = .returned (.int .i64 ((t.getD a false).toNat : Int)) ∧ Rd b t (nx t a) w' ∧ w.grownBy w' (some b) := by
  obtain ⟨c0, c1, c2⟩ := rd_cells h
  have hts := txt_size t
  have HH : Hid _ := h
  clear h
  by_cases hlt : a < t.length
  · have hlI : ¬ (a : Int) ≥ (t.length : Int) := by omega
    have hx := txt_at t a (by omega)
    have HR : Hid (Rd b t (nx t a) (w.setCell ⟨b, 1, none⟩ (.int .i64 ((a : Int) + 1)))) := (by
      have h2 := heap_setCell_same w b 1 _ _ (.int .i64 ((a : Int) + 1)) HH.out
      unfold Rd nx
      rw [if_pos hlt, h2]
      rfl : Rd _ _ _ _)
    have d0 : (w.setCell ⟨b, 1, none⟩ (.int .i64 ((a : Int) + 1))).cell? ⟨b, 0, none⟩ = some (.string (txt t)) := (rd_cells HR.out).1
    have d1 : (w.setCell ⟨b, 1, none⟩ (.int .i64 ((a : Int) + 1))).cell? ⟨b, 1, none⟩ = some (.int .i64 ((a : Int) + 1)) := by
      have := (rd_cells HR.out).2.1
      unfold nx at this
      rw [if_pos hlt] at this
      exact this
    go_enter Tryz.func65, Tryz.ntmps65
    go_wp2_with fail
    go_quiet (fail)
    go_wp2_with fail
    go_quiet (fail)
    go_wp2
    go_ret
    refine ⟨?_, HR.out, gb_dn _ _ _ ((gb_dn _ _ _ (gb_refl _ _) _).trans (gb_set _ _ _ _)) _⟩
    refine ret1 ?_
    show Value.int .i64 ((48 + ((t[a].toNat : Nat) : Int) - 48) % 256) = _
    have e : t.getD a false = t[a] := by rw [List.getD_eq_getElem?_getD, List.getElem?_eq_getElem hlt]; rfl
    have hb := Bool.toNat_le t[a]
    rw [e]
    congr 1
    omega
  · have hlI : (a : Int) ≥ (t.length : Int) := by omega
    have hg : t.getD a false = false := by rw [List.getD_eq_getElem?_getD, List.getElem?_eq_none (by omega)]; rfl
    have hnx : nx t a = a := by unfold nx; rw [if_neg hlt]
    rw [hg, hnx]
    go_enter Tryz.func65, Tryz.ntmps65
    go_wp2_with fail
    go_quiet (fail)
    go_wp2_with fail
    go_ret
    exact ⟨rfl, HH.out, gb_dn _ _ _ (gb_refl _ _) _⟩
/-- where a reader stands behind k bits -/
def mv (t : List Bool) (a k : Nat) : Nat := min (a + k) t.length
theorem mv_nx (t : List Bool) (a k : Nat) : nx t (mv t a k) = mv t a (k + 1) := by unfold nx mv; split <;> omega
theorem mv_mv (t : List Bool) (a j k : Nat) : mv t (mv t a j) k = mv t a (j + k) := by unfold mv; omega
theorem mv_getD (t : List Bool) (a k : Nat) : t.getD (mv t a k) false = t.getD (a + k) false := by
  unfold mv
  rcases Nat.le_total (a + k) t.length with h | h
  · rw [Nat.min_eq_left h]
  · rw [Nat.min_eq_right h, List.getD_eq_getElem?_getD, List.getD_eq_getElem?_getD, List.getElem?_eq_none (by omega), List.getElem?_eq_none (by omega)]
theorem mv_sub (t : List Bool) (a j k : Nat) : sub t (mv t a j) k = sub t (a + j) k := by
  unfold sub
  refine List.map_congr_left (fun i _ => ?_)
  have h1 := mv_getD t a (j + i)
  rw [← mv_mv, mv_getD] at h1
  rw [h1, Nat.add_assoc]
theorem or_bit (m : Nat) (x : Bool) (hm : m < 1073741824) : bits .or .i64 ((m : Int) * 2) ((x.toNat : Nat) : Int) = ((2 * m + x.toNat : Nat) : Int) := by
  have hx := Bool.toNat_le x
  show IntKind.i64.wrap ((BitVec.ofInt 64 ((m : Int) * 2) ||| BitVec.ofInt 64 ((x.toNat : Nat) : Int)).toNat : Int) = _
  rw [BitVec.toNat_or]
  have e1 : (BitVec.ofInt 64 ((m : Int) * 2)).toNat = 2 ^ 1 * m := by simp; omega
  have e2 : (BitVec.ofInt 64 ((x.toNat : Nat) : Int)).toNat = x.toNat := by simp; omega
  rw [e1, e2, ← Nat.two_pow_add_eq_or_of_lt (i := 1) (b := x.toNat) (by omega), IntKind.wrap_i64]
  omega
set_option maxHeartbeats 1000000 in
set_option maxRecDepth 100000 in
theorem rdnum_any (b : Nat) (t : List Bool) (a k : Nat) (w : World) (h : Rd b t a w) (ht : t.length ≤ 100000000) (ha : a ≤ t.length) (hk : k ≤ 20) :
    Calls Tryz.prog 64 #[.pointer (some ⟨b, 0, none⟩), .int .i64 (k : Int)] w fun e w' => e = .returned (.int .i64 (numOf (sub t a k) : Int)) ∧ Rd b t (mv t a k) w' ∧ w.grownBy w' (some b) := by
  have HH : Hid _ := h
  clear h
  go_enter Tryz.func64, Tryz.ntmps64
  go_wp2
  go_loopw [5, 7] (fun sn si wr => ∃ i m : Nat, i ≤ k ∧ si = .int .i64 (i : Int) ∧ sn = .int .i64 (m : Int) ∧ m < 1073741824 ∧ Hid (m = numOf (sub t a i) ∧ Rd b t (mv t a i) wr ∧ w.grownBy wr (some b))) (fun _ si _ => k - (intOf si).toNat)
  case atStart => exact ⟨0, 0, Nat.zero_le _, rfl, rfl, by decide, rfl, by unfold mv; rw [Nat.add_zero, Nat.min_eq_left ha]; exact HH.out, gb_refl _ _⟩
  case round =>
    obtain ⟨i, m, hi, rfl, rfl, hm, HI⟩ := hrel
    by_cases hlt : i < k
    · have hC := rdbit_any b t (mv t a i) wr HI.out.2.1 ht (by unfold mv; omega)
      rw [mv_nx, mv_getD] at hC
      have HC : Hid (Calls Tryz.prog 65 _ wr _) := hC
      have hN := numOf_snoc (sub t a i) (t.getD (a + i) false)
      rw [← sub_succ, ← HI.out.1] at hN
      have hL := numOf_lt (sub t a (i + 1))
      rw [sub_len] at hL
      have hp : 2 ^ (i + 1) ≤ 2 ^ 20 := Nat.pow_le_pow_right (by decide) (by omega)
      have hmm : m < 1048576 := by omega
      have HO : Hid _ := or_bit m (t.getD (a + i) false) hm
      generalize t.getD (a + i) false = x at HC HO hN
      have hx := Bool.toNat_le x
      have HN : Hid _ := hN
      have hm2 : 2 * m + x.toNat < 1073741824 := by rw [← hN]; omega
      clear hC hL hp hN
      go_wp2_with fail
      refine (Calls.mono HC.out ?_)
      rintro e w2 ⟨rfl, hr2, hg2⟩
      have HI2 : Hid (2 * m + x.toNat = numOf (sub t a (i + 1)) ∧ Rd b t (mv t a (i + 1)) w2 ∧ w.grownBy w2 (some b)) := (⟨HN.out.symm, hr2, HI.out.2.2.trans hg2⟩ : _ ∧ _)
      clear hr2 hg2
      go_wp2_with fail
      rw [HO.out]
      refine ⟨⟨i + 1, 2 * m + x.toNat, by omega, by go_num, rfl, hm2, HI2.out⟩, ?_⟩
      simp [intOf]; omega
    · obtain rfl : i = k := by omega
      have HE : Hid _ := HI.out.1
      go_wp2
      go_ret
      exact ⟨by rw [← HE.out]; rfl, HI.out.2⟩
set_option maxHeartbeats 1000000 in
set_option maxRecDepth 100000 in
theorem rdsize_any (b : Nat) (t : List Bool) (w : World) (h : Rd b t 0 w) (ht : t.length ≤ 100000000) :
    Calls Tryz.prog 35 #[.pointer (some ⟨b, 0, none⟩)] w fun e w' => e = .returned (.agg #[.int .i64 (numOf (sub t 0 14) : Int), .int .i64 (numOf (sub t 14 5) : Int), .int .i64 (numOf (sub t 19 15) : Int)]) ∧ Rd b t (mv t 0 34) w' ∧ w.grownBy w' (some b) := by
  have hb : b < w.heap.size := (Array.getElem?_eq_some_iff.1 h).1
  have hg0 := World.grownBy_alloc w (.cells #[.int .i64 0, .int .i64 0, .int .i64 0] 32) (some b)
  have hr0 := rd_kept h (World.grownBy_alloc w (.cells #[.int .i64 0, .int .i64 0, .int .i64 0] 32) none) (by simp)
  have HG0 : Hid _ := hg0
  have H1 : Hid (Calls Tryz.prog 64 _ _ _) := rdnum_any b t 0 14 _ hr0 ht (Nat.zero_le _) (by decide)
  clear h hg0 hr0
  go_enter Tryz.func35, Tryz.ntmps35
  go_wp2_with fail
  refine (Calls.mono H1.out ?_)
  rintro e w1 ⟨rfl, hr1, hg1⟩
  have HG1 : Hid _ := HG0.out.trans hg1
  have H2 : Hid (Calls Tryz.prog 64 _ _ _) := (by
    have h := rdnum_any b t (mv t 0 14) 5 w1 hr1 ht (by unfold mv; omega) (by decide)
    rw [mv_mv, mv_sub] at h
    exact h : Calls Tryz.prog 64 _ _ _)
  have hS1 : w1.heap[w.heap.size]? = some (.cells #[.int .i64 0, .int .i64 0, .int .i64 0] 32 (0, 0)) := by
    rw [hg1.block _ (by simp) (by simp; omega)]; exact heap_alloc_new _ _
  have hs1 := hg1.size
  clear H1 hr1 hg1
  go_wp2_with fail
  refine (Calls.mono H2.out ?_)
  rintro e w2 ⟨rfl, hr2, hg2⟩
  have HG2 : Hid _ := HG1.out.trans hg2
  have H3 : Hid (Calls Tryz.prog 64 _ _ _) := (by
    have h := rdnum_any b t (mv t 0 (14 + 5)) 15 w2 hr2 ht (by unfold mv; omega) (by decide)
    rw [mv_mv, mv_sub] at h
    exact h : Calls Tryz.prog 64 _ _ _)
  have hS2 : w2.heap[w.heap.size]? = some (.cells #[.int .i64 0, .int .i64 0, .int .i64 0] 32 (0, 0)) := by
    rw [hg2.block _ (by simp at hs1; omega) (by simp; omega)]; exact hS1
  have hs2 := hg2.size
  clear H2 hr2 hg2 hS1
  go_wp2_with fail
  refine (Calls.mono H3.out ?_)
  rintro e w3 ⟨rfl, hr3, hg3⟩
  have HG3 : Hid _ := HG2.out.trans hg3
  have hS3 : w3.heap[w.heap.size]? = some (.cells #[.int .i64 0, .int .i64 0, .int .i64 0] 32 (0, 0)) := by
    rw [hg3.block _ (by simp at hs1; omega) (by simp; omega)]; exact hS2
  have HR3 : Hid _ := hr3
  have k0 : w3.cell? ⟨w.heap.size, 0, none⟩ = some (.int .i64 0) := by rw [cell_of_row w3 _ 0 _ _ _ hS3]; rfl
  have k1 : w3.cell? ⟨w.heap.size, 1, none⟩ = some (.int .i64 0) := by rw [cell_of_row w3 _ 1 _ _ _ hS3]; rfl
  have k2 : w3.cell? ⟨w.heap.size, 2, none⟩ = some (.int .i64 0) := by rw [cell_of_row w3 _ 2 _ _ _ hS3]; rfl
  have f0 := frozen_of_row w3 _ 0 _ _ hS3
  have f1 := frozen_of_row w3 _ 1 _ _ hS3
  have f2 := frozen_of_row w3 _ 2 _ _ hS3
  have hs3 := hg3.size
  clear H3 hr3 hg3 hS2 hS3
  go_wp2
  refine bodyPost_ret (v := .agg #[.int .i64 (numOf (sub t 0 14) : Int), .int .i64 (numOf (sub t 14 5) : Int), .int .i64 (numOf (sub t 19 15) : Int)]) (by simp [results, Tryz.results35, go_sem, *]) rfl ?_
  refine ⟨rfl, ?_, ?_⟩
  · unfold Rd
    rw [heap_setCell_other _ _ _ _ (by show b ≠ w.heap.size; omega), heap_setCell_other _ _ _ _ (by show b ≠ w.heap.size; omega), heap_setCell_other _ _ _ _ (by show b ≠ w.heap.size; omega)]
    exact HR3.out
  · exact ⟨HG3.out.os, HG3.out.tape, HG3.out.output, by simp at hs1 ⊢; omega, fun k hk hne => by
      rw [heap_setCell_other _ _ _ _ (by show k ≠ w.heap.size; omega), heap_setCell_other _ _ _ _ (by show k ≠ w.heap.size; omega), heap_setCell_other _ _ _ _ (by show k ≠ w.heap.size; omega)]
      exact HG3.out.block k hk hne⟩
end Go.Proofs.YtphjbbbnbmafnaaGreat.G
