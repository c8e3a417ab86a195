/-
  The program's reader of a text of bits (reader.bit, number, size): what it reads, and where it stands then; only the reader's own block is written.
  The program's reading of edges (reader.edges): where they are from, bit by bit, till the nodes are through or there are more than were told; then labels, and where they go to. Only the reader's own block is written.
  The program's reading of edges, walked.
-/
import Derived.Test.YtphjbbbnbmafnabGreatDoorPRead
import Derived.Test.YtphjbbbnbmafnabGreatDoorComp
import Derived.Test.YtphjbbbnbmafnabGreatDoorPText
import Derived.Deep.AppendLies
import Derived.RangeFuncBox
namespace Go.Proofs.YtphjbbbnbmafnabGreatDoor.G
open Go.RowKit

/-- a reader as it lies -/
def Rd (b : Nat) (t : List Bool) (a : Nat) (w : World) : Prop := w.heap[b]? = some (.cells #[.string (txt t), .int .i64 (a : Int)] 52 (0, 0))
theorem gb_refl (w : World) (row : Option Nat) : w.grownBy w row := ⟨rfl, rfl, rfl, Nat.le_refl _, fun _ _ _ => rfl⟩
theorem gb_dn (w w' : World) (row : Option Nat) (h : w.grownBy w' row) (n : Nat) : w.grownBy (w'.drewN n) row := ⟨h.os, h.tape, h.output, h.size, h.block⟩
theorem rd_kept {b : Nat} {t : List Bool} {a : Nat} {w w' : World} {row : Option Nat} (h : Rd b t a w) (hg : w.grownBy w' row) (hne : some b ≠ row) : Rd b t a w' := (hg.block b ((Array.getElem?_eq_some_iff.1 h).1) hne).trans h
theorem rd_cells {b : Nat} {t : List Bool} {a : Nat} {w : World} (h : Rd b t a w) : w.cell? ⟨b, 0, none⟩ = some (.string (txt t)) ∧ w.cell? ⟨b, 1, none⟩ = some (.int .i64 (a : Int)) ∧ w.frozen? ⟨b, 1, none⟩ = false := by
  refine ⟨by rw [cell_of_row w b 0 _ _ _ h]; rfl, by rw [cell_of_row w b 1 _ _ _ h]; rfl, ?_⟩
  exact frozen_of_row w b 1 _ _ h
/-- where a reader stands behind one bit -/
def nx (t : List Bool) (a : Nat) : Nat := if a < t.length then a + 1 else a
set_option maxHeartbeats 1000000 in
set_option maxRecDepth 100000 in
theorem rdbit_any (b : Nat) (t : List Bool) (a : Nat) (w : World) (h : Rd b t a w) (ht : t.length ≤ 100000000) (ha : a ≤ t.length) :
    Calls Tryz.prog 43 #[.pointer (some ⟨b, 0, none⟩)] w fun e w' => e = .returned (.int .i64 ((t.getD a false).toNat : Int)) ∧ Rd b t (nx t a) w' ∧ w.grownBy w' (some b) := by
  obtain ⟨c0, c1, c2⟩ := rd_cells h
  have hts := txt_size t
  have HH : Hid _ := h
  clear h
  by_cases hlt : a < t.length
  · have hlI : ¬ (a : Int) ≥ (t.length : Int) := by omega
    have hx := txt_at t a (by omega)
    have HR : Hid (Rd b t (nx t a) (w.setCell ⟨b, 1, none⟩ (.int .i64 ((a : Int) + 1)))) := (by
      have h2 := heap_setCell_same w b 1 _ _ (.int .i64 ((a : Int) + 1)) HH.out
      unfold Rd nx
      rw [if_pos hlt, h2]
      rfl : Rd _ _ _ _)
    have d0 : (w.setCell ⟨b, 1, none⟩ (.int .i64 ((a : Int) + 1))).cell? ⟨b, 0, none⟩ = some (.string (txt t)) := (rd_cells HR.out).1
    have d1 : (w.setCell ⟨b, 1, none⟩ (.int .i64 ((a : Int) + 1))).cell? ⟨b, 1, none⟩ = some (.int .i64 ((a : Int) + 1)) := by
      have := (rd_cells HR.out).2.1
      unfold nx at this
      rw [if_pos hlt] at this
      exact this
    go_enter Tryz.func43, Tryz.ntmps43
    go_wp2_with fail
    go_quiet (fail)
    go_wp2_with fail
    go_quiet (fail)
    go_wp2
    go_ret
    refine ⟨?_, HR.out, gb_dn _ _ _ ((gb_dn _ _ _ (gb_refl _ _) _).trans (gb_set _ _ _ _)) _⟩
    refine ret1 ?_
    show Value.int .i64 ((48 + ((t[a].toNat : Nat) : Int) - 48) % 256) = _
    have e : t.getD a false = t[a] := by rw [List.getD_eq_getElem?_getD, List.getElem?_eq_getElem hlt]; rfl
    have hb := Bool.toNat_le t[a]
    rw [e]
    congr 1
    omega
  · have hlI : (a : Int) ≥ (t.length : Int) := by omega
    have hg : t.getD a false = false := by rw [List.getD_eq_getElem?_getD, List.getElem?_eq_none (by omega)]; rfl
    have hnx : nx t a = a := by unfold nx; rw [if_neg hlt]
    rw [hg, hnx]
    go_enter Tryz.func43, Tryz.ntmps43
    go_wp2_with fail
    go_quiet (fail)
    go_wp2_with fail
    go_ret
    exact ⟨rfl, HH.out, gb_dn _ _ _ (gb_refl _ _) _⟩
/-- where a reader stands behind k bits -/
def mv (t : List Bool) (a k : Nat) : Nat := min (a + k) t.length
theorem mv_nx (t : List Bool) (a k : Nat) : nx t (mv t a k) = mv t a (k + 1) := by unfold nx mv; split <;> omega
theorem mv_mv (t : List Bool) (a j k : Nat) : mv t (mv t a j) k = mv t a (j + k) := by unfold mv; omega
theorem mv_getD (t : List Bool) (a k : Nat) : t.getD (mv t a k) false = t.getD (a + k) false := by
  unfold mv
  rcases Nat.le_total (a + k) t.length with h | h
  · rw [Nat.min_eq_left h]
  · rw [Nat.min_eq_right h, List.getD_eq_getElem?_getD, List.getD_eq_getElem?_getD, List.getElem?_eq_none (by omega), List.getElem?_eq_none (by omega)]
theorem mv_sub (t : List Bool) (a j k : Nat) : sub t (mv t a j) k = sub t (a + j) k := by
  unfold sub
  refine List.map_congr_left (fun i _ => ?_)
  have h1 := mv_getD t a (j + i)
  rw [← mv_mv, mv_getD] at h1
  rw [h1, Nat.add_assoc]
theorem or_bit (m : Nat) (x : Bool) (hm : m < 1073741824) : bits .or .i64 ((m : Int) * 2) ((x.toNat : Nat) : Int) = ((2 * m + x.toNat : Nat) : Int) := by
  have hx := Bool.toNat_le x
  show IntKind.i64.wrap ((BitVec.ofInt 64 ((m : Int) * 2) ||| BitVec.ofInt 64 ((x.toNat : Nat) : Int)).toNat : Int) = _
  rw [BitVec.toNat_or]
  have e1 : (BitVec.ofInt 64 ((m : Int) * 2)).toNat = 2 ^ 1 * m := by simp; omega
  have e2 : (BitVec.ofInt 64 ((x.toNat : Nat) : Int)).toNat = x.toNat := by simp; omega
  rw [e1, e2, ← Nat.two_pow_add_eq_or_of_lt (i := 1) (b := x.toNat) (by omega), IntKind.wrap_i64]
  omega
set_option maxHeartbeats 1000000 in
set_option maxRecDepth 100000 in
theorem rdnum_any (b : Nat) (t : List Bool) (a k : Nat) (w : World) (h : Rd b t a w) (ht : t.length ≤ 100000000) (ha : a ≤ t.length) (hk : k ≤ 20) :
    Calls Tryz.prog 42 #[.pointer (some ⟨b, 0, none⟩), .int .i64 (k : Int)] w fun e w' => e = .returned (.int .i64 (numOf (sub t a k) : Int)) ∧ Rd b t (mv t a k) w' ∧ w.grownBy w' (some b) := by
  have HH : Hid _ := h
  clear h
  go_enter Tryz.func42, Tryz.ntmps42
  go_wp2
  go_loopw [5, 7] (fun sn si wr => ∃ i m : Nat, i ≤ k ∧ si = .int .i64 (i : Int) ∧ sn = .int .i64 (m : Int) ∧ m < 1073741824 ∧ Hid (m = numOf (sub t a i) ∧ Rd b t (mv t a i) wr ∧ w.grownBy wr (some b))) (fun _ si _ => k - (intOf si).toNat)
  case atStart => exact ⟨0, 0, Nat.zero_le _, rfl, rfl, by decide, rfl, by unfold mv; rw [Nat.add_zero, Nat.min_eq_left ha]; exact HH.out, gb_refl _ _⟩
  case round =>
    obtain ⟨i, m, hi, rfl, rfl, hm, HI⟩ := hrel
    by_cases hlt : i < k
    · have hC := rdbit_any b t (mv t a i) wr HI.out.2.1 ht (by unfold mv; omega)
      rw [mv_nx, mv_getD] at hC
      have HC : Hid (Calls Tryz.prog 43 _ wr _) := hC
      have hN := numOf_snoc (sub t a i) (t.getD (a + i) false)
      rw [← sub_succ, ← HI.out.1] at hN
      have hL := numOf_lt (sub t a (i + 1))
      rw [sub_len] at hL
      have hp : 2 ^ (i + 1) ≤ 2 ^ 20 := Nat.pow_le_pow_right (by decide) (by omega)
      have hmm : m < 1048576 := by omega
      have HO : Hid _ := or_bit m (t.getD (a + i) false) hm
      generalize t.getD (a + i) false = x at HC HO hN
      have hx := Bool.toNat_le x
      have HN : Hid _ := hN
      have hm2 : 2 * m + x.toNat < 1073741824 := by rw [← hN]; omega
      clear hC hL hp hN
      go_wp2_with fail
      refine (Calls.mono HC.out ?_)
      rintro e w2 ⟨rfl, hr2, hg2⟩
      have HI2 : Hid (2 * m + x.toNat = numOf (sub t a (i + 1)) ∧ Rd b t (mv t a (i + 1)) w2 ∧ w.grownBy w2 (some b)) := (⟨HN.out.symm, hr2, HI.out.2.2.trans hg2⟩ : _ ∧ _)
      clear hr2 hg2
      go_wp2_with fail
      rw [HO.out]
      refine ⟨⟨i + 1, 2 * m + x.toNat, by omega, by go_num, rfl, hm2, HI2.out⟩, ?_⟩
      simp [intOf]; omega
    · obtain rfl : i = k := by omega
      have HE : Hid _ := HI.out.1
      go_wp2
      go_ret
      exact ⟨by rw [← HE.out]; rfl, HI.out.2⟩
set_option maxHeartbeats 1000000 in
set_option maxRecDepth 100000 in
theorem rdsize_any (b : Nat) (t : List Bool) (w : World) (h : Rd b t 0 w) (ht : t.length ≤ 100000000) :
    Calls Tryz.prog 21 #[.pointer (some ⟨b, 0, none⟩)] w fun e w' => e = .returned (.agg #[.int .i64 (numOf (sub t 0 14) : Int), .int .i64 (numOf (sub t 14 5) : Int), .int .i64 (numOf (sub t 19 15) : Int)]) ∧ Rd b t (mv t 0 34) w' ∧ w.grownBy w' (some b) := by
  have hb : b < w.heap.size := (Array.getElem?_eq_some_iff.1 h).1
  have hg0 := World.grownBy_alloc w (.cells #[.int .i64 0, .int .i64 0, .int .i64 0] 43) (some b)
  have hr0 := rd_kept h (World.grownBy_alloc w (.cells #[.int .i64 0, .int .i64 0, .int .i64 0] 43) none) (by simp)
  have HG0 : Hid _ := hg0
  have H1 : Hid (Calls Tryz.prog 42 _ _ _) := rdnum_any b t 0 14 _ hr0 ht (Nat.zero_le _) (by decide)
  clear h hg0 hr0
  go_enter Tryz.func21, Tryz.ntmps21
  go_wp2_with fail
  refine (Calls.mono H1.out ?_)
  rintro e w1 ⟨rfl, hr1, hg1⟩
  have HG1 : Hid _ := HG0.out.trans hg1
  have H2 : Hid (Calls Tryz.prog 42 _ _ _) := (by
    have h := rdnum_any b t (mv t 0 14) 5 w1 hr1 ht (by unfold mv; omega) (by decide)
    rw [mv_mv, mv_sub] at h
    exact h : Calls Tryz.prog 42 _ _ _)
  have hS1 : w1.heap[w.heap.size]? = some (.cells #[.int .i64 0, .int .i64 0, .int .i64 0] 43 (0, 0)) := by
    rw [hg1.block _ (by simp) (by simp; omega)]; exact heap_alloc_new _ _
  have hs1 := hg1.size
  clear H1 hr1 hg1
  go_wp2_with fail
  refine (Calls.mono H2.out ?_)
  rintro e w2 ⟨rfl, hr2, hg2⟩
  have HG2 : Hid _ := HG1.out.trans hg2
  have H3 : Hid (Calls Tryz.prog 42 _ _ _) := (by
    have h := rdnum_any b t (mv t 0 (14 + 5)) 15 w2 hr2 ht (by unfold mv; omega) (by decide)
    rw [mv_mv, mv_sub] at h
    exact h : Calls Tryz.prog 42 _ _ _)
  have hS2 : w2.heap[w.heap.size]? = some (.cells #[.int .i64 0, .int .i64 0, .int .i64 0] 43 (0, 0)) := by
    rw [hg2.block _ (by simp at hs1; omega) (by simp; omega)]; exact hS1
  have hs2 := hg2.size
  clear H2 hr2 hg2 hS1
  go_wp2_with fail
  refine (Calls.mono H3.out ?_)
  rintro e w3 ⟨rfl, hr3, hg3⟩
  have HG3 : Hid _ := HG2.out.trans hg3
  have hS3 : w3.heap[w.heap.size]? = some (.cells #[.int .i64 0, .int .i64 0, .int .i64 0] 43 (0, 0)) := by
    rw [hg3.block _ (by simp at hs1; omega) (by simp; omega)]; exact hS2
  have HR3 : Hid _ := hr3
  have k0 : w3.cell? ⟨w.heap.size, 0, none⟩ = some (.int .i64 0) := by rw [cell_of_row w3 _ 0 _ _ _ hS3]; rfl
  have k1 : w3.cell? ⟨w.heap.size, 1, none⟩ = some (.int .i64 0) := by rw [cell_of_row w3 _ 1 _ _ _ hS3]; rfl
  have k2 : w3.cell? ⟨w.heap.size, 2, none⟩ = some (.int .i64 0) := by rw [cell_of_row w3 _ 2 _ _ _ hS3]; rfl
  have f0 := frozen_of_row w3 _ 0 _ _ hS3
  have f1 := frozen_of_row w3 _ 1 _ _ hS3
  have f2 := frozen_of_row w3 _ 2 _ _ hS3
  have hs3 := hg3.size
  clear H3 hr3 hg3 hS2 hS3
  go_wp2
  refine bodyPost_ret (v := .agg #[.int .i64 (numOf (sub t 0 14) : Int), .int .i64 (numOf (sub t 14 5) : Int), .int .i64 (numOf (sub t 19 15) : Int)]) (by simp [results, Tryz.results21, go_sem, *]) rfl ?_
  refine ⟨rfl, ?_, ?_⟩
  · unfold Rd
    rw [heap_setCell_other _ _ _ _ (by show b ≠ w.heap.size; omega), heap_setCell_other _ _ _ _ (by show b ≠ w.heap.size; omega), heap_setCell_other _ _ _ _ (by show b ≠ w.heap.size; omega)]
    exact HR3.out
  · exact ⟨HG3.out.os, HG3.out.tape, HG3.out.output, by simp at hs1 ⊢; omega, fun k hk hne => by
      rw [heap_setCell_other _ _ _ _ (by show k ≠ w.heap.size; omega), heap_setCell_other _ _ _ _ (by show k ≠ w.heap.size; omega), heap_setCell_other _ _ _ _ (by show k ≠ w.heap.size; omega)]
      exact HG3.out.block k hk hne⟩
end Go.Proofs.YtphjbbbnbmafnabGreatDoor.G

namespace Go.Proofs.YtphjbbbnbmafnabGreatDoor.G
open Go.RowKit

/-- where edges are from, k bits on, and the node at hand -/
def rdf (t : List Bool) (a : Nat) : Nat → List Nat × Nat
  | 0 => ([], 0)
  | k + 1 => if t.getD (a + k) false then ((rdf t a k).1 ++ [(rdf t a k).2], (rdf t a k).2) else ((rdf t a k).1, (rdf t a k).2 + 1)
theorem rdf_sum (t : List Bool) (a k : Nat) : (rdf t a k).1.length + (rdf t a k).2 = k := by
  induction k with
  | zero => rfl
  | succ k ih => unfold rdf; split <;> simp <;> omega
/-- the edges, of which so many have their label and so many their end -/
def lst (fs : List Nat) (lb tb : Nat → Nat) (i j : Nat) : List E3 := (List.range fs.length).map fun x => (((fs.getD x 0 : Nat) : Int), (((if x < i then lb x else 0 : Nat)) : Int), ((if x < j then tb x else 0 : Nat) : Int))
theorem lst_len (fs : List Nat) (lb tb : Nat → Nat) (i j : Nat) : (lst fs lb tb i j).length = fs.length := by simp [lst]
theorem lst_at (fs : List Nat) (lb tb : Nat → Nat) (i j x : Nat) (h : x < fs.length) : (lst fs lb tb i j)[x]? = some (((fs.getD x 0 : Nat) : Int), (((if x < i then lb x else 0 : Nat)) : Int), ((if x < j then tb x else 0 : Nat) : Int)) := by
  unfold lst; rw [List.getElem?_map, List.getElem?_range h]; rfl
theorem lst_new (fs : List Nat) (lb tb : Nat → Nat) (u : Nat) : lst (fs ++ [u]) lb tb 0 0 = lst fs lb tb 0 0 ++ [((u : Int), 0, 0)] := by
  unfold lst
  rw [List.length_append, List.length_singleton, List.range_succ, List.map_append]
  congr 1
  · refine List.map_congr_left (fun x hx => ?_)
    have hx' : x < fs.length := by simpa using hx
    have e : (fs ++ [u]).getD x 0 = fs.getD x 0 := by
      simp only [List.getD_eq_getElem?_getD]
      rw [List.getElem?_append_left hx']
    rw [e]
  · simp
theorem set_same {α : Type} (l : List α) (i : Nat) (v : α) (h : l[i]? = some v) : l.set i v = l := by
  apply List.ext_getElem?
  intro j
  rw [List.getElem?_set]
  split
  · rename_i e; subst e
    have := (List.getElem?_eq_some_iff.1 h).1
    rw [if_pos this, h]
  · rfl
theorem flat_lab {l : List E3} {k : Nat} {e : E3} (h : l[k]? = some e) (y : Int) : (flat l).set (k * 3 + 1) (.int .i64 y) = flat (l.set k (e.1, y, e.2.2)) := by
  obtain ⟨h0, _, h2⟩ := flat_three h
  rw [flat_set l k _ (len_of h), set_same _ _ _ h0]
  rw [List.set_comm _ _ (by omega), set_same _ _ _ h2]
theorem flat_to {l : List E3} {k : Nat} {e : E3} (h : l[k]? = some e) (y : Int) : (flat l).set (k * 3 + 2) (.int .i64 y) = flat (l.set k (e.1, e.2.1, y)) := by
  obtain ⟨h0, h1, _⟩ := flat_three h
  rw [flat_set l k _ (len_of h), set_same _ _ _ h0, set_same _ _ _ h1]
theorem lst_lab (fs : List Nat) (lb tb : Nat → Nat) (i j : Nat) (h : i < fs.length) : (flat (lst fs lb tb i j)).set (i * 3 + 1) (.int .i64 (lb i : Int)) = flat (lst fs lb tb (i + 1) j) := by
  rw [flat_lab (lst_at fs lb tb i j i h)]
  congr 1
  apply List.ext_getElem?
  intro x
  rw [List.getElem?_set, lst_len]
  by_cases hx : x < fs.length
  · rw [lst_at _ _ _ _ _ x hx, lst_at _ _ _ _ _ x hx]
    by_cases e : i = x
    · subst e; simp [h]
    · have e2 : (x < i + 1) = (x < i) := by apply propext; omega
      simp only [if_neg e, e2]
  · have e : ¬ i = x := by omega
    rw [if_neg e, List.getElem?_eq_none (by rw [lst_len]; omega), List.getElem?_eq_none (by rw [lst_len]; omega)]
theorem lst_to (fs : List Nat) (lb tb : Nat → Nat) (i j : Nat) (h : j < fs.length) : (flat (lst fs lb tb i j)).set (j * 3 + 2) (.int .i64 (tb j : Int)) = flat (lst fs lb tb i (j + 1)) := by
  rw [flat_to (lst_at fs lb tb i j j h)]
  congr 1
  apply List.ext_getElem?
  intro x
  rw [List.getElem?_set, lst_len]
  by_cases hx : x < fs.length
  · rw [lst_at _ _ _ _ _ x hx, lst_at _ _ _ _ _ x hx]
    by_cases e : j = x
    · subst e; simp [h]
    · have e2 : (x < j + 1) = (x < j) := by apply propext; omega
      simp only [if_neg e, e2]
  · have e : ¬ j = x := by omega
    rw [if_neg e, List.getElem?_eq_none (by rw [lst_len]; omega), List.getElem?_eq_none (by rw [lst_len]; omega)]
/-- all as it lies on the way -/
def St (w : World) (b : Nat) (t : List Bool) (n s E : Nat) (v : Value) (l : List E3) (a : Nat) (wr : World) : Prop :=
  wr.ownsRow (w.heap.size + 1) 41 3 v l.length (flat l) ∧ Rd b t a wr ∧ wr.heap[w.heap.size]? = some (.cells #[.int .i64 (n : Int), .int .i64 (s : Int), .int .i64 (E : Int)] 43 (0, 0)) ∧ w.grownBy wr (some b)
theorem St.read {w : World} {b : Nat} {t : List Bool} {n s E : Nat} {v : Value} {l : List E3} {a a' : Nat} {wr w2 : World} (h : St w b t n s E v l a wr) (hb : b < w.heap.size) (hr : Rd b t a' w2) (hg : wr.grownBy w2 (some b)) : St w b t n s E v l a' w2 := by
  refine ⟨h.1.kept hg ?_, hr, ?_, h.2.2.2.trans hg⟩
  · cases e : v.ownBlock with
    | none => exact .inl rfl
    | some k => exact .inr (by have := (h.1.lt k e).1; intro e2; cases e2; omega)
  · rw [hg.block _ ((Array.getElem?_eq_some_iff.1 h.2.2.1).1) (by simp; omega)]; exact h.2.2.1
theorem St.box {w : World} {b : Nat} {t : List Bool} {n s E : Nat} {v : Value} {l : List E3} {a : Nat} {wr : World} (h : St w b t n s E v l a wr) : wr.cell? ⟨w.heap.size, 0, none⟩ = some (.int .i64 (n : Int)) ∧ wr.cell? ⟨w.heap.size, 1, none⟩ = some (.int .i64 (s : Int)) ∧ wr.cell? ⟨w.heap.size, 2, none⟩ = some (.int .i64 (E : Int)) :=
  ⟨by rw [cell_of_row wr _ 0 _ _ _ h.2.2.1]; rfl, by rw [cell_of_row wr _ 1 _ _ _ h.2.2.1]; rfl, by rw [cell_of_row wr _ 2 _ _ _ h.2.2.1]; rfl⟩
theorem St.app {w : World} {b : Nat} {t : List Bool} {n s E : Nat} {v v' : Value} {l : List E3} {e : E3} {a : Nat} {wr w2 : World} {o : Obj} (h : St w b t n s E v l a wr) (hb : b < w.heap.size) (hown : w2.ownsRow (w.heap.size + 1) 41 3 v' (l.length + 1) (flat l ++ [.int .i64 e.1, .int .i64 e.2.1, .int .i64 e.2.2])) (hg : (wr.alloc o).grownBy w2 v.ownBlock) : St w b t n s E v' (l ++ [e]) a w2 := by
  have hne : ∀ k, k ≤ w.heap.size → some k ≠ v.ownBlock := fun k hk e => by
    have := (h.1.lt k e.symm).1; omega
  have hg2 := World.grownBy_alloc wr o none
  have hx : w.heap.size < wr.heap.size := (Array.getElem?_eq_some_iff.1 h.2.2.1).1
  refine ⟨by rw [flat_snoc, List.length_append]; exact hown, rd_kept (rd_kept h.2.1 hg2 (by simp)) hg (hne b (by omega)), ?_, ?_⟩
  · rw [hg.block _ (by simp; omega) (hne _ (Nat.le_refl _)), hg2.block _ hx (by simp)]; exact h.2.2.1
  · have hw := h.2.2.2
    refine ⟨hg.os.trans (hg2.os.trans hw.os), hg.tape.trans (hg2.tape.trans hw.tape), hg.output.trans (hg2.output.trans hw.output), Nat.le_trans hw.size (Nat.le_trans hg2.size hg.size), fun k hk hne2 => ?_⟩
    rw [hg.block k (by have := hw.size; simp; omega) (hne k (by omega)), hg2.block k (by have := hw.size; omega) (by simp)]
    exact hw.block k hk hne2
theorem St.put {w : World} {b : Nat} {t : List Bool} {n s E : Nat} {g m cap : Nat} {l l' : List E3} {a j : Nat} {u : Value} {wr : World} (h : St w b t n s E (.slice (some ⟨g, 0, none⟩) m cap) l a wr) (hb : b < w.heap.size) (hf : (flat l).set j u = flat l') (hm : l.length = m) (hl : l'.length = m) : St w b t n s E (.slice (some ⟨g, 0, none⟩) m cap) l' a (wr.setCell ⟨g, j, none⟩ u) := by
  subst hm
  have h2 := h.1.stored j u
  have hgk := (h.1.lt g rfl).1
  refine ⟨by rw [hl, ← hf]; exact h2.1, ?_, ?_, ?_⟩
  · unfold Rd
    rw [heap_setCell_other _ _ _ _ (by show b ≠ g; omega)]; exact h.2.1
  · rw [heap_setCell_other _ _ _ _ (by show w.heap.size ≠ g; omega)]; exact h.2.2.1
  · have hw := h.2.2.2
    refine ⟨hw.os, hw.tape, hw.output, by simp; exact hw.size, fun k hk hne2 => ?_⟩
    rw [heap_setCell_other _ _ _ _ (by show k ≠ g; omega)]
    exact hw.block k hk hne2
theorem St.cellAt {w : World} {b : Nat} {t : List Bool} {n s E : Nat} {g m cap : Nat} {l : List E3} {a j : Nat} {e : E3} {wr : World} (h : St w b t n s E (.slice (some ⟨g, 0, none⟩) m cap) l a wr) (hm : l.length = m) (hj : l[j]? = some e) :
    (wr.cell? ⟨g, j * 3 + 1, none⟩ = some (.int .i64 e.2.1) ∧ wr.frozen? ⟨g, j * 3 + 1, none⟩ = false) ∧ wr.cell? ⟨g, j * 3 + 2, none⟩ = some (.int .i64 e.2.2) ∧ wr.frozen? ⟨g, j * 3 + 2, none⟩ = false := by
  subst hm
  have hl := len_of hj
  obtain ⟨_, h1, h2⟩ := flat_three hj
  exact ⟨⟨by rw [h.1.cellAt _ (by omega)]; exact h1, h.1.frozenAt _⟩, by rw [h.1.cellAt _ (by omega)]; exact h2, h.1.frozenAt _⟩
theorem St.some {w : World} {b : Nat} {t : List Bool} {n s E : Nat} {a0 : Option Addr} {m cap : Nat} {l : List E3} {a : Nat} {wr : World} (h : St w b t n s E (.slice a0 m cap) l a wr) (hm : l.length = m) (h0 : 0 < m) : ∃ g, a0 = some ⟨g, 0, none⟩ := by
  rcases h.1.2 with ⟨h', h2⟩ | ⟨g', cap', cur, h', _⟩
  · cases h'; omega
  · cases h'; exact ⟨g', rfl⟩
end Go.Proofs.YtphjbbbnbmafnabGreatDoor.G

namespace Go.Proofs.YtphjbbbnbmafnabGreatDoor.G
open Go.RowKit

/-- the reading of where edges are from ends here -/
def Stop (t : List Bool) (a n E K : Nat) : Prop := (∀ k < K, (rdf t a k).2 < n ∧ (rdf t a k).1.length ≤ E) ∧ ¬ ((rdf t a K).2 < n ∧ (rdf t a K).1.length ≤ E)
/-- the edges that are read -/
def edg (t : List Bool) (a n s K : Nat) : List E3 :=
  lst (rdf t a K).1 (fun i => numOf (sub t (a + K + i * wid (s - 1)) (wid (s - 1)))) (fun i => numOf (sub t (a + K + (rdf t a K).1.length * wid (s - 1) + i * wid (n - 1)) (wid (n - 1)))) (rdf t a K).1.length (rdf t a K).1.length
set_option maxHeartbeats 4000000 in
set_option maxRecDepth 100000 in
theorem rdedges_any (b : Nat) (t : List Bool) (a n s E : Nat) (w : World) (h : Rd b t (mv t 0 a) w) (ht : t.length ≤ 100000000) (hn : 1 ≤ n ∧ n ≤ 10000) (hs : 1 ≤ s ∧ s ≤ 26) (hE : E ≤ 20000) :
    Calls Tryz.prog 22 #[.pointer (some ⟨b, 0, none⟩), .agg #[.int .i64 (n : Int), .int .i64 (s : Int), .int .i64 (E : Int)]] w fun e w' => ∃ K v a', Stop t a n E K ∧ e = .returned v ∧ w'.ownsRow (w.heap.size + 1) 41 3 v (edg t a n s K).length (flat (edg t a n s K)) ∧ Rd b t a' w' ∧ w.grownBy w' (some b) := by
  have hb : b < w.heap.size := (Array.getElem?_eq_some_iff.1 h).1
  obtain ⟨i0, hi, hinfo⟩ := Option.map_eq_some_iff.1 Tryz.infoE
  have hz0 : i0.zero = some (.agg #[.int .i64 0, .int .i64 0, .int .i64 0]) := congrArg (fun x => x.1) hinfo
  have hz1 : i0.size = 3 := congrArg (fun x => x.2.1) hinfo
  have hz2 : i0.bytes = 24 := congrArg (fun x => x.2.2) hinfo
  clear hinfo
  have H0 : Hid (St w b t n s E (.slice none 0 0) (lst [] (fun _ => 0) (fun _ => 0) 0 0) (mv t 0 (a + 0)) (w.alloc (.cells #[.int .i64 (n : Int), .int .i64 (s : Int), .int .i64 (E : Int)] 43))) := (by
    exact ⟨World.ownsRow_nil _ _ _ _, rd_kept h (World.grownBy_alloc w _ none) (by simp), heap_alloc_new _ _, World.grownBy_alloc w _ _⟩ : St _ _ _ _ _ _ _ _ _ _)
  clear h
  go_enter Tryz.func22, Tryz.ntmps22
  go_wp2
  go_loopw [5, 6] (fun sv su wr => ∃ (k : Nat) (fs : List Nat) (u : Nat), u ≤ n ∧ fs.length ≤ E + 1 ∧ su = .int .i64 (u : Int) ∧ (∃ a0 cap, sv = .slice a0 fs.length cap) ∧ Hid (rdf t a k = (fs, u) ∧ St w b t n s E sv (lst fs (fun _ => 0) (fun _ => 0) 0 0) (mv t 0 (a + k)) wr ∧ ∀ j < k, (rdf t a j).2 < n ∧ (rdf t a j).1.length ≤ E)) (fun sv su _ => (n - (intOf su).toNat) + (E + 1 - lenV sv))
  case atStart => exact ⟨0, [], 0, Nat.zero_le _, Nat.zero_le _, rfl, ⟨none, 0, rfl⟩, rfl, H0.out, fun j hj => by omega⟩
  case round =>
    obtain ⟨k, fs, u, hk1, hk2, rfl, ⟨a0, cap, rfl⟩, HI⟩ := hrel
    obtain ⟨c0, c1, c2⟩ := HI.out.2.1.box
    by_cases hgo : u < n ∧ fs.length ≤ E
    · obtain ⟨hlt, hle⟩ := hgo
      have hC := rdbit_any b t (mv t 0 (a + k)) wr HI.out.2.1.2.1 ht (by unfold mv; omega)
      rw [mv_nx, mv_getD, Nat.zero_add] at hC
      have HC : Hid (Calls Tryz.prog 43 _ wr _) := hC
      clear hC
      have HJ : Hid (∀ j < k + 1, (rdf t a j).2 < n ∧ (rdf t a j).1.length ≤ E) := (by
        intro j hj
        rcases Nat.lt_succ_iff_lt_or_eq.1 hj with h | h
        · exact HI.out.2.2 j h
        · rw [h, HI.out.1]; exact ⟨hlt, hle⟩ : ∀ j < k + 1, _)
      cases hbit : t.getD (a + k) false
      · have HF : Hid (rdf t a (k + 1) = (fs, u + 1)) := (by show (if t.getD (a + k) false then _ else _) = _; rw [hbit, HI.out.1]; rfl : _ = _)
        rw [hbit] at HC
        clear hbit
        go_wp2_with fail
        refine (Calls.mono HC.out ?_)
        rintro e w2 ⟨rfl, hr2, hg2⟩
        have HI2 : Hid (rdf t a (k + 1) = (fs, u + 1) ∧ St w b t n s E (.slice a0 fs.length cap) (lst fs (fun _ => 0) (fun _ => 0) 0 0) (mv t 0 (a + (k + 1))) w2 ∧ ∀ j < k + 1, (rdf t a j).2 < n ∧ (rdf t a j).1.length ≤ E) := (⟨HF.out, HI.out.2.1.read hb hr2 hg2, HJ.out⟩ : _ ∧ _)
        clear hr2 hg2
        go_wp2
        go_roundw
        case rel => exact ⟨k + 1, fs, u + 1, by omega, by omega, by go_num, ⟨a0, cap, rfl⟩, HI2.out⟩
        case measure => simp [intOf, lenV]; omega
      · have HF : Hid (rdf t a (k + 1) = (fs ++ [u], u)) := (by show (if t.getD (a + k) false then _ else _) = _; rw [hbit, HI.out.1]; rfl : _ = _)
        rw [hbit] at HC
        clear hbit
        go_wp2_with fail
        refine (Calls.mono HC.out ?_)
        rintro e w2 ⟨rfl, hr2, hg2⟩
        have HS2 : Hid (St w b t n s E (.slice a0 fs.length cap) (lst fs (fun _ => 0) (fun _ => 0) 0 0) (mv t 0 (a + (k + 1))) w2) := HI.out.2.1.read hb hr2 hg2
        clear hr2 hg2
        have hrow := HS2.out.1
        have hsz : w.heap.size < w2.heap.size := (Array.getElem?_eq_some_iff.1 HS2.out.2.2.1).1
        have hln := lst_len fs (fun _ => 0) (fun _ => 0) 0 0
        go_wp2_with (at_builtin; refine wpList_append_own _ rfl _ _ 27 rfl (w.heap.size + 1) 41 i0 (.agg #[.int .i64 0, .int .i64 0, .int .i64 0]) 3 24 Tryz.underlying27 hi hz0 hz1 hz2 rfl (by decide) _ _ _ rfl (hrow.alloc _) ⟨w2.heap.size, 0, none⟩ 1 1 [.int .i64 (u : Int), .int .i64 0, .int .i64 0] rfl rfl (src3 _ _ _ _ _) (one3 _ _ _) (by unfold maxLen; omega) (by omega) (by simp; omega) ?_; intro v' w3 hown hgrow hnil)
        have HO2 : Hid _ := HS2.out.app (e := ((u : Int), 0, 0)) hb hown hgrow
        rw [hln] at hown
        obtain ⟨g', cap', rfl⟩ := ownsRow_succ hown
        clear hown hgrow hnil hrow
        refine ⟨⟨k + 1, fs ++ [u], u, by omega, by simp; omega, rfl, ⟨_, cap', by rw [List.length_append]; rfl⟩, HF.out, by rw [lst_new]; exact HO2.out, HJ.out⟩, ?_⟩
        simp [lenV]; omega
    · have HStop : Hid (Stop t a n E k) := (⟨HI.out.2.2, by rw [HI.out.1]; exact hgo⟩ : Stop t a n E k)
      have hw1 := wid_le (s - 1) (by omega)
      have hw2 := wid_le (n - 1) (by omega)
      have HF : Hid _ := HI.out.1
      have HW1 : ∀ W, Hid (Calls Tryz.prog 36 _ W _) := fun W => pwidth_any s hs.1 (by omega) W
      have HW2 : ∀ W, Hid (Calls Tryz.prog 36 _ W _) := fun W => pwidth_any n hn.1 (by omega) W
      obtain ⟨lb, hlb⟩ : ∃ lb : Nat → Nat, lb = fun i => numOf (sub t (a + k + i * wid (s - 1)) (wid (s - 1))) := ⟨_, rfl⟩
      obtain ⟨tb, htb⟩ : ∃ tb : Nat → Nat, tb = fun i => numOf (sub t (a + k + fs.length * wid (s - 1) + i * wid (n - 1)) (wid (n - 1))) := ⟨_, rfl⟩
      have HEdg : Hid (edg t a n s k = lst fs lb tb fs.length fs.length) := (by unfold edg; rw [HF.out, hlb, htb] : _ = _)
      have HLB : Hid _ := hlb
      have HTB : Hid _ := htb
      clear hlb htb
      have HS0 : Hid (St w b t n s E (.slice a0 fs.length cap) (lst fs lb tb 0 0) (mv t 0 (a + k + 0 * wid (s - 1))) wr) := (by
        have h := HI.out.2.1
        rw [show a + k + 0 * wid (s - 1) = a + k by omega]
        exact h : St _ _ _ _ _ _ _ _ _ _)
      clear HI
      rcases Nat.lt_or_ge u n with hun | hun
      case' inl => have hle : ¬ fs.length ≤ E := fun h => hgo ⟨hun, h⟩
      case' inr => have hun2 : ¬ (u : Int) < (n : Int) := by omega
      all_goals
        clear hgo
        go_wp2
        go_loopw [32] (fun si wr => ∃ i : Nat, i ≤ fs.length ∧ si = .int .i64 (i : Int) ∧ Hid (St w b t n s E (.slice a0 fs.length cap) (lst fs lb tb i 0) (mv t 0 (a + k + i * wid (s - 1))) wr)) (fun si _ => fs.length - (intOf si).toNat)
        case atStart => exact ⟨0, Nat.zero_le _, rfl, HS0.out⟩
        case round =>
          obtain ⟨i, hi2, rfl, HI⟩ := hrel
          by_cases hlt2 : i < fs.length
          · obtain ⟨g, rfl⟩ := HI.out.some (lst_len _ _ _ _ _) (by omega)
            have d1 := HI.out.box.2.1
            clear c0 c1 c2
            have hC := rdnum_any b t (mv t 0 (a + k + i * wid (s - 1))) (wid (s - 1)) wr HI.out.2.1 ht (by unfold mv; omega) (by omega)
            rw [mv_mv, mv_sub, Nat.zero_add, show a + k + i * wid (s - 1) + wid (s - 1) = a + k + (i + 1) * wid (s - 1) by rw [Nat.add_mul]; omega] at hC
            have HV : Hid (numOf (sub t (a + k + i * wid (s - 1)) (wid (s - 1))) = lb i) := (by rw [HLB.out] : _ = _)
            rw [HV.out] at hC
            have HC : Hid (Calls Tryz.prog 42 _ wr _) := hC
            clear hC
            go_wp2_with fail
            refine (Calls.mono (HW1 _).out ?_)
            rintro e w1 ⟨rfl, hw1e⟩
            rw [hw1e]
            clear hw1e w1
            go_wp2_with fail
            refine (Calls.mono HC.out ?_)
            rintro e w2 ⟨rfl, hr2, hg2⟩
            have HS2 : Hid (St w b t n s E (.slice (some ⟨g, 0, none⟩) fs.length cap) (lst fs lb tb i 0) (mv t 0 (a + k + (i + 1) * wid (s - 1))) w2) := HI.out.read hb hr2 hg2
            clear hr2 hg2
            have hcl := (HS2.out.cellAt (lst_len _ _ _ _ _) (lst_at fs lb tb i 0 i hlt2)).1.1
            have hfr := (HS2.out.cellAt (lst_len _ _ _ _ _) (lst_at fs lb tb i 0 i hlt2)).1.2
            have HS3 : Hid (St w b t n s E (.slice (some ⟨g, 0, none⟩) fs.length cap) (lst fs lb tb (i + 1) 0) (mv t 0 (a + k + (i + 1) * wid (s - 1))) (w2.setCell ⟨g, i * 3 + 1, none⟩ (.int .i64 (lb i : Int)))) := HS2.out.put hb (lst_lab fs lb tb i 0 hlt2) (lst_len _ _ _ _ _) (lst_len _ _ _ _ _)
            go_wp2
            go_roundw
            case rel => exact ⟨i + 1, by omega, by go_num, HS3.out⟩
            case measure => simp [intOf]; omega
          · obtain rfl : i = fs.length := by omega
            have HS1 : Hid (St w b t n s E (.slice a0 fs.length cap) (lst fs lb tb fs.length 0) (mv t 0 (a + k + fs.length * wid (s - 1) + 0 * wid (n - 1))) wr) := (by
              have h := HI.out
              rw [show a + k + fs.length * wid (s - 1) + 0 * wid (n - 1) = a + k + fs.length * wid (s - 1) by omega]
              exact h : St _ _ _ _ _ _ _ _ _ _)
            clear HI c0 c1 c2
            go_wp2
            go_loopw [47] (fun si wr => ∃ i : Nat, i ≤ fs.length ∧ si = .int .i64 (i : Int) ∧ Hid (St w b t n s E (.slice a0 fs.length cap) (lst fs lb tb fs.length i) (mv t 0 (a + k + fs.length * wid (s - 1) + i * wid (n - 1))) wr)) (fun si _ => fs.length - (intOf si).toNat)
            case atStart => exact ⟨0, Nat.zero_le _, rfl, HS1.out⟩
            case round =>
              obtain ⟨i, hi3, rfl, HI⟩ := hrel
              by_cases hlt3 : i < fs.length
              · obtain ⟨g, rfl⟩ := HI.out.some (lst_len _ _ _ _ _) (by omega)
                have d0 := HI.out.box.1
                have hC := rdnum_any b t (mv t 0 (a + k + fs.length * wid (s - 1) + i * wid (n - 1))) (wid (n - 1)) wr HI.out.2.1 ht (by unfold mv; omega) (by omega)
                rw [mv_mv, mv_sub, Nat.zero_add, show a + k + fs.length * wid (s - 1) + i * wid (n - 1) + wid (n - 1) = a + k + fs.length * wid (s - 1) + (i + 1) * wid (n - 1) by rw [Nat.add_mul i]; omega] at hC
                have HV : Hid (numOf (sub t (a + k + fs.length * wid (s - 1) + i * wid (n - 1)) (wid (n - 1))) = tb i) := (by rw [HTB.out] : _ = _)
                rw [HV.out] at hC
                have HC : Hid (Calls Tryz.prog 42 _ wr _) := hC
                clear hC
                go_wp2_with fail
                refine (Calls.mono (HW2 _).out ?_)
                rintro e w1 ⟨rfl, hw1e⟩
                rw [hw1e]
                clear hw1e w1
                go_wp2_with fail
                refine (Calls.mono HC.out ?_)
                rintro e w2 ⟨rfl, hr2, hg2⟩
                have HS2 : Hid (St w b t n s E (.slice (some ⟨g, 0, none⟩) fs.length cap) (lst fs lb tb fs.length i) (mv t 0 (a + k + fs.length * wid (s - 1) + (i + 1) * wid (n - 1))) w2) := HI.out.read hb hr2 hg2
                clear hr2 hg2
                have hcl := (HS2.out.cellAt (lst_len _ _ _ _ _) (lst_at fs lb tb fs.length i i hlt3)).2.1
                have hfr := (HS2.out.cellAt (lst_len _ _ _ _ _) (lst_at fs lb tb fs.length i i hlt3)).2.2
                have HS3 : Hid (St w b t n s E (.slice (some ⟨g, 0, none⟩) fs.length cap) (lst fs lb tb fs.length (i + 1)) (mv t 0 (a + k + fs.length * wid (s - 1) + (i + 1) * wid (n - 1))) (w2.setCell ⟨g, i * 3 + 2, none⟩ (.int .i64 (tb i : Int)))) := HS2.out.put hb (lst_to fs lb tb fs.length i hlt3) (lst_len _ _ _ _ _) (lst_len _ _ _ _ _)
                go_wp2
                go_roundw
                case rel => exact ⟨i + 1, by omega, by go_num, HS3.out⟩
                case measure => simp [intOf]; omega
              · obtain rfl : i = fs.length := by omega
                go_wp2
                go_ret
                exact ⟨k, _, _, HStop.out, rfl, by rw [HEdg.out]; exact HI.out.1, HI.out.2.1, HI.out.2.2.2⟩
end Go.Proofs.YtphjbbbnbmafnabGreatDoor.G
