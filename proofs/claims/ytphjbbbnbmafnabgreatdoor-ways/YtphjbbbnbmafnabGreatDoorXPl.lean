/-
  Sets of places (package expr's Set: four words as a value): Or, And, Without, IsEmpty, only: what they answer; new memory; nothing that was there is written.
  The lowest bit of a word (bits.TrailingZeros64), the set of one place (expr.only): what they answer.
-/
import Derived.Test.YtphjbbbnbmafnabGreatDoorEqE
import Derived.Laws.BitsAllLaws
import Derived.Shelf.Spec.TrailingZeros
namespace Go.Proofs.YtphjbbbnbmafnabGreatDoor.G
open Go.RowKit

theorem xal {a W : World} {o : Obj} (h : Below a.heap.size a W) : Below a.heap.size a (W.alloc o) := h.alloc h.size o
theorem xset_row (w : World) (B i : Nat) (xs : Array Value) (t : TypeId) (fz : Nat × Nat) (v : Value) (h : w.heap[B]? = some (.cells xs t fz)) : (w.setCell ⟨B, i, none⟩ v).heap[B]? = some (.cells (xs.setIfInBounds i v) t fz) := by
  simp [World.setCell, Array.getElem?_modify, h]
theorem xset_other (W : World) (B i X : Nat) (v : Value) {y : Obj} (h : W.heap[X]? = some y) (hne : X ≠ B) : (W.setCell ⟨B, i, none⟩ v).heap[X]? = some y := by
  rw [show (W.setCell ⟨B, i, none⟩ v).heap[X]? = W.heap[X]? from Below.heap_setCell _ _ _ _ hne]
  exact h
/-- four words, the first i of them new -/
def mix (i : Nat) (a b c d e f g h : Value) : Array Value := #[if 0 < i then e else a, if 1 < i then f else b, if 2 < i then g else c, if 3 < i then h else d]
theorem row4 {w : World} {B : Nat} {t : TypeId} {a b c d : Value} (h : w.heap[B]? = some (.cells #[a, b, c, d] t (0, 0))) : (w.cell? ⟨B, 0, none⟩ = some a ∧ w.cell? ⟨B, 1, none⟩ = some b ∧ w.cell? ⟨B, 2, none⟩ = some c ∧ w.cell? ⟨B, 3, none⟩ = some d) ∧ (w.frozen? ⟨B, 0, none⟩ = false ∧ w.frozen? ⟨B, 1, none⟩ = false ∧ w.frozen? ⟨B, 2, none⟩ = false ∧ w.frozen? ⟨B, 3, none⟩ = false) :=
  ⟨⟨by rw [cell_of_row _ _ 0 _ _ _ h]; rfl, by rw [cell_of_row _ _ 1 _ _ _ h]; rfl, by rw [cell_of_row _ _ 2 _ _ _ h]; rfl, by rw [cell_of_row _ _ 3 _ _ _ h]; rfl⟩, frozen_of_row _ _ 0 _ _ h, frozen_of_row _ _ 1 _ _ h, frozen_of_row _ _ 2 _ _ h, frozen_of_row _ _ 3 _ _ h⟩
theorem heap_keep {W W' : World} {k : Nat} {o : Obj} (hB : Below W.heap.size W W') (h : W.heap[k]? = some o) : W'.heap[k]? = some o := (hB.block k (Array.getElem?_eq_some_iff.1 h).1).trans h
set_option maxHeartbeats 4000000 in
set_option maxRecDepth 100000 in
theorem setor_any (a b c d e f g h : Nat) (ha : a < 18446744073709551616) (hb : b < 18446744073709551616) (hc : c < 18446744073709551616) (hd : d < 18446744073709551616) (he : e < 18446744073709551616) (hf : f < 18446744073709551616) (hg : g < 18446744073709551616) (hh : h < 18446744073709551616) (w : World) :
    Calls Tryz.prog 85 #[.agg #[.int .u64 (a : Int), .int .u64 (b : Int), .int .u64 (c : Int), .int .u64 (d : Int)], .agg #[.int .u64 (e : Int), .int .u64 (f : Int), .int .u64 (g : Int), .int .u64 (h : Int)]] w fun r w' => r = .returned (.agg #[.int .u64 ((a ||| e : Nat) : Int), .int .u64 ((b ||| f : Nat) : Int), .int .u64 ((c ||| g : Nat) : Int), .int .u64 ((d ||| h : Nat) : Int)]) ∧ Below w.heap.size w w' := by
  have o0 := u64_or_nat a e ha he
  have o1 := u64_or_nat b f hb hf
  have o2 := u64_or_nat c g hc hg
  have o3 := u64_or_nat d h hd hh
  have x0 : ∀ w, (Instr.index 114 (.agg #[.int .u64 (e : Int), .int .u64 (f : Int), .int .u64 (g : Int), .int .u64 (h : Int)]) (.int .i64 0)).run Tryz.prog w = .ok (.int .u64 (e : Int)) w := fun _ => by kernel_rfl
  have x1 : ∀ w, (Instr.index 114 (.agg #[.int .u64 (e : Int), .int .u64 (f : Int), .int .u64 (g : Int), .int .u64 (h : Int)]) (.int .i64 1)).run Tryz.prog w = .ok (.int .u64 (f : Int)) w := fun _ => by kernel_rfl
  have x2 : ∀ w, (Instr.index 114 (.agg #[.int .u64 (e : Int), .int .u64 (f : Int), .int .u64 (g : Int), .int .u64 (h : Int)]) (.int .i64 2)).run Tryz.prog w = .ok (.int .u64 (g : Int)) w := fun _ => by kernel_rfl
  have x3 : ∀ w, (Instr.index 114 (.agg #[.int .u64 (e : Int), .int .u64 (f : Int), .int .u64 (g : Int), .int .u64 (h : Int)]) (.int .i64 3)).run Tryz.prog w = .ok (.int .u64 (h : Int)) w := fun _ => by kernel_rfl
  obtain ⟨W0, hW0⟩ : ∃ W0, W0 = ((w.alloc (.cells #[.int .u64 (a : Int), .int .u64 (b : Int), .int .u64 (c : Int), .int .u64 (d : Int)] 114)).alloc (.cells #[.int .u64 (e : Int), .int .u64 (f : Int), .int .u64 (g : Int), .int .u64 (h : Int)] 114)).alloc (.cells #[.int .u64 0, .int .u64 0, .int .u64 0, .int .u64 0] 114) := ⟨_, rfl⟩
  have hJ : Below w.heap.size w W0 := by rw [hW0]; exact xal (xal (below1 _ _))
  have r0 : W0.heap[w.heap.size]? = some (.cells #[.int .u64 (a : Int), .int .u64 (b : Int), .int .u64 (c : Int), .int .u64 (d : Int)] 114 (0, 0)) := by rw [hW0]; exact heap_keep (below1 _ _) (heap_keep (below1 _ _) (heap_alloc_new w _))
  have r2 : W0.heap[w.heap.size + 1 + 1]? = some (.cells #[.int .u64 0, .int .u64 0, .int .u64 0, .int .u64 0] 114 (0, 0)) := by
    rw [hW0]
    have := heap_alloc_new ((w.alloc (.cells #[.int .u64 (a : Int), .int .u64 (b : Int), .int .u64 (c : Int), .int .u64 (d : Int)] 114)).alloc (.cells #[.int .u64 (e : Int), .int .u64 (f : Int), .int .u64 (g : Int), .int .u64 (h : Int)] 114)) (.cells #[.int .u64 0, .int .u64 0, .int .u64 0, .int .u64 0] 114)
    rwa [World.size_alloc, World.size_alloc] at this
  have HJ : Hid _ := hJ
  have HR0 : Hid _ := r0
  have HR2 : Hid _ := r2
  clear hJ r0 r2
  go_enter Tryz.func85, Tryz.ntmps85
  go_wp2
  rw [← hW0]
  have HW0 : Hid _ := hW0
  clear hW0
  go_loopw [8] (fun si wr => ∃ i : Nat, i ≤ 4 ∧ si = .int .i64 (i : Int) ∧ Hid (wr.heap[w.heap.size]? = some (.cells (mix i (.int .u64 (a : Int)) (.int .u64 (b : Int)) (.int .u64 (c : Int)) (.int .u64 (d : Int)) (.int .u64 ((a ||| e : Nat) : Int)) (.int .u64 ((b ||| f : Nat) : Int)) (.int .u64 ((c ||| g : Nat) : Int)) (.int .u64 ((d ||| h : Nat) : Int))) 114 (0, 0)) ∧ wr.heap[w.heap.size + 1 + 1]? = some (.cells #[.int .u64 0, .int .u64 0, .int .u64 0, .int .u64 0] 114 (0, 0)) ∧ Below w.heap.size w wr)) (fun si _ => 4 - (intOf si).toNat)
  case atStart => exact ⟨0, Nat.zero_le _, rfl, ⟨HR0.out, HR2.out, HJ.out⟩⟩
  case round =>
    obtain ⟨i, hi, rfl, HI⟩ := hrel
    rcases (show i = 0 ∨ i = 1 ∨ i = 2 ∨ i = 3 ∨ i = 4 by omega) with rfl | rfl | rfl | rfl | rfl
    · rw [show ((0 : Nat) : Int) = 0 from rfl]
      have c0 : wr.cell? ⟨w.heap.size, 0, none⟩ = some (.int .u64 (a : Int)) := (row4 HI.out.1).1.1
      have f0 : wr.frozen? ⟨w.heap.size, 0, none⟩ = false := (row4 HI.out.1).2.1
      have HN : Hid (_ ∧ _ ∧ _) := ⟨xset_row wr w.heap.size 0 _ _ _ (.int .u64 ((a ||| e : Nat) : Int)) HI.out.1, xset_other wr w.heap.size 0 (w.heap.size + 1 + 1) (.int .u64 ((a ||| e : Nat) : Int)) HI.out.2.1 (by omega), HI.out.2.2.setCell (p := ⟨w.heap.size, 0, none⟩) (Nat.le_refl _) (.int .u64 ((a ||| e : Nat) : Int))⟩
      clear HI
      go_wp2
      go_roundw
      case rel => exact ⟨1, by omega, rfl, HN.out⟩
      case measure => simp [intOf]
    · rw [show ((1 : Nat) : Int) = 1 from rfl]
      have c1 : wr.cell? ⟨w.heap.size, 1, none⟩ = some (.int .u64 (b : Int)) := (row4 HI.out.1).1.2.1
      have f1 : wr.frozen? ⟨w.heap.size, 1, none⟩ = false := (row4 HI.out.1).2.2.1
      have HN : Hid (_ ∧ _ ∧ _) := ⟨xset_row wr w.heap.size 1 _ _ _ (.int .u64 ((b ||| f : Nat) : Int)) HI.out.1, xset_other wr w.heap.size 1 (w.heap.size + 1 + 1) (.int .u64 ((b ||| f : Nat) : Int)) HI.out.2.1 (by omega), HI.out.2.2.setCell (p := ⟨w.heap.size, 1, none⟩) (Nat.le_refl _) (.int .u64 ((b ||| f : Nat) : Int))⟩
      clear HI
      go_wp2
      go_roundw
      case rel => exact ⟨2, by omega, rfl, HN.out⟩
      case measure => simp [intOf]
    · rw [show ((2 : Nat) : Int) = 2 from rfl]
      have c2 : wr.cell? ⟨w.heap.size, 2, none⟩ = some (.int .u64 (c : Int)) := (row4 HI.out.1).1.2.2.1
      have f2 : wr.frozen? ⟨w.heap.size, 2, none⟩ = false := (row4 HI.out.1).2.2.2.1
      have HN : Hid (_ ∧ _ ∧ _) := ⟨xset_row wr w.heap.size 2 _ _ _ (.int .u64 ((c ||| g : Nat) : Int)) HI.out.1, xset_other wr w.heap.size 2 (w.heap.size + 1 + 1) (.int .u64 ((c ||| g : Nat) : Int)) HI.out.2.1 (by omega), HI.out.2.2.setCell (p := ⟨w.heap.size, 2, none⟩) (Nat.le_refl _) (.int .u64 ((c ||| g : Nat) : Int))⟩
      clear HI
      go_wp2
      go_roundw
      case rel => exact ⟨3, by omega, rfl, HN.out⟩
      case measure => simp [intOf]
    · rw [show ((3 : Nat) : Int) = 3 from rfl]
      have c3 : wr.cell? ⟨w.heap.size, 3, none⟩ = some (.int .u64 (d : Int)) := (row4 HI.out.1).1.2.2.2
      have f3 : wr.frozen? ⟨w.heap.size, 3, none⟩ = false := (row4 HI.out.1).2.2.2.2
      have HN : Hid (_ ∧ _ ∧ _) := ⟨xset_row wr w.heap.size 3 _ _ _ (.int .u64 ((d ||| h : Nat) : Int)) HI.out.1, xset_other wr w.heap.size 3 (w.heap.size + 1 + 1) (.int .u64 ((d ||| h : Nat) : Int)) HI.out.2.1 (by omega), HI.out.2.2.setCell (p := ⟨w.heap.size, 3, none⟩) (Nat.le_refl _) (.int .u64 ((d ||| h : Nat) : Int))⟩
      clear HI
      go_wp2
      go_roundw
      case rel => exact ⟨4, by omega, rfl, HN.out⟩
      case measure => simp [intOf]
    · rw [show ((4 : Nat) : Int) = 4 from rfl]
      have c0 : wr.cell? ⟨w.heap.size, 0, none⟩ = some (.int .u64 ((a ||| e : Nat) : Int)) := (row4 HI.out.1).1.1
      have c1 : wr.cell? ⟨w.heap.size, 1, none⟩ = some (.int .u64 ((b ||| f : Nat) : Int)) := (row4 HI.out.1).1.2.1
      have c2 : wr.cell? ⟨w.heap.size, 2, none⟩ = some (.int .u64 ((c ||| g : Nat) : Int)) := (row4 HI.out.1).1.2.2.1
      have c3 : wr.cell? ⟨w.heap.size, 3, none⟩ = some (.int .u64 ((d ||| h : Nat) : Int)) := (row4 HI.out.1).1.2.2.2
      obtain ⟨⟨d0, d1, d2, d3⟩, e0, e1, e2, e3⟩ := row4 HI.out.2.1
      have HB : Hid _ := HI.out.2.2
      clear HI
      go_wp2
      refine bodyPost_ret (v := .agg #[.int .u64 ((a ||| e : Nat) : Int), .int .u64 ((b ||| f : Nat) : Int), .int .u64 ((c ||| g : Nat) : Int), .int .u64 ((d ||| h : Nat) : Int)]) (by simp [results, Tryz.results85, go_sem, *]) rfl ?_
      exact ⟨rfl, (((HB.out.setCell (p := ⟨w.heap.size + 1 + 1, 0, none⟩) (by simp only; omega) _).setCell (p := ⟨w.heap.size + 1 + 1, 1, none⟩) (by simp only; omega) _).setCell (p := ⟨w.heap.size + 1 + 1, 2, none⟩) (by simp only; omega) _).setCell (p := ⟨w.heap.size + 1 + 1, 3, none⟩) (by simp only; omega) _⟩
set_option maxHeartbeats 4000000 in
set_option maxRecDepth 100000 in
theorem setand_any (a b c d e f g h : Nat) (ha : a < 18446744073709551616) (hb : b < 18446744073709551616) (hc : c < 18446744073709551616) (hd : d < 18446744073709551616) (he : e < 18446744073709551616) (hf : f < 18446744073709551616) (hg : g < 18446744073709551616) (hh : h < 18446744073709551616) (w : World) :
    Calls Tryz.prog 91 #[.agg #[.int .u64 (a : Int), .int .u64 (b : Int), .int .u64 (c : Int), .int .u64 (d : Int)], .agg #[.int .u64 (e : Int), .int .u64 (f : Int), .int .u64 (g : Int), .int .u64 (h : Int)]] w fun r w' => r = .returned (.agg #[.int .u64 ((a &&& e : Nat) : Int), .int .u64 ((b &&& f : Nat) : Int), .int .u64 ((c &&& g : Nat) : Int), .int .u64 ((d &&& h : Nat) : Int)]) ∧ Below w.heap.size w w' := by
  have o0 := u64_and_nat a e ha he
  have o1 := u64_and_nat b f hb hf
  have o2 := u64_and_nat c g hc hg
  have o3 := u64_and_nat d h hd hh
  have x0 : ∀ w, (Instr.index 114 (.agg #[.int .u64 (e : Int), .int .u64 (f : Int), .int .u64 (g : Int), .int .u64 (h : Int)]) (.int .i64 0)).run Tryz.prog w = .ok (.int .u64 (e : Int)) w := fun _ => by kernel_rfl
  have x1 : ∀ w, (Instr.index 114 (.agg #[.int .u64 (e : Int), .int .u64 (f : Int), .int .u64 (g : Int), .int .u64 (h : Int)]) (.int .i64 1)).run Tryz.prog w = .ok (.int .u64 (f : Int)) w := fun _ => by kernel_rfl
  have x2 : ∀ w, (Instr.index 114 (.agg #[.int .u64 (e : Int), .int .u64 (f : Int), .int .u64 (g : Int), .int .u64 (h : Int)]) (.int .i64 2)).run Tryz.prog w = .ok (.int .u64 (g : Int)) w := fun _ => by kernel_rfl
  have x3 : ∀ w, (Instr.index 114 (.agg #[.int .u64 (e : Int), .int .u64 (f : Int), .int .u64 (g : Int), .int .u64 (h : Int)]) (.int .i64 3)).run Tryz.prog w = .ok (.int .u64 (h : Int)) w := fun _ => by kernel_rfl
  obtain ⟨W0, hW0⟩ : ∃ W0, W0 = ((w.alloc (.cells #[.int .u64 (a : Int), .int .u64 (b : Int), .int .u64 (c : Int), .int .u64 (d : Int)] 114)).alloc (.cells #[.int .u64 (e : Int), .int .u64 (f : Int), .int .u64 (g : Int), .int .u64 (h : Int)] 114)).alloc (.cells #[.int .u64 0, .int .u64 0, .int .u64 0, .int .u64 0] 114) := ⟨_, rfl⟩
  have hJ : Below w.heap.size w W0 := by rw [hW0]; exact xal (xal (below1 _ _))
  have r0 : W0.heap[w.heap.size]? = some (.cells #[.int .u64 (a : Int), .int .u64 (b : Int), .int .u64 (c : Int), .int .u64 (d : Int)] 114 (0, 0)) := by rw [hW0]; exact heap_keep (below1 _ _) (heap_keep (below1 _ _) (heap_alloc_new w _))
  have r2 : W0.heap[w.heap.size + 1 + 1]? = some (.cells #[.int .u64 0, .int .u64 0, .int .u64 0, .int .u64 0] 114 (0, 0)) := by
    rw [hW0]
    have := heap_alloc_new ((w.alloc (.cells #[.int .u64 (a : Int), .int .u64 (b : Int), .int .u64 (c : Int), .int .u64 (d : Int)] 114)).alloc (.cells #[.int .u64 (e : Int), .int .u64 (f : Int), .int .u64 (g : Int), .int .u64 (h : Int)] 114)) (.cells #[.int .u64 0, .int .u64 0, .int .u64 0, .int .u64 0] 114)
    rwa [World.size_alloc, World.size_alloc] at this
  have HJ : Hid _ := hJ
  have HR0 : Hid _ := r0
  have HR2 : Hid _ := r2
  clear hJ r0 r2
  go_enter Tryz.func91, Tryz.ntmps91
  go_wp2
  rw [← hW0]
  have HW0 : Hid _ := hW0
  clear hW0
  go_loopw [8] (fun si wr => ∃ i : Nat, i ≤ 4 ∧ si = .int .i64 (i : Int) ∧ Hid (wr.heap[w.heap.size]? = some (.cells (mix i (.int .u64 (a : Int)) (.int .u64 (b : Int)) (.int .u64 (c : Int)) (.int .u64 (d : Int)) (.int .u64 ((a &&& e : Nat) : Int)) (.int .u64 ((b &&& f : Nat) : Int)) (.int .u64 ((c &&& g : Nat) : Int)) (.int .u64 ((d &&& h : Nat) : Int))) 114 (0, 0)) ∧ wr.heap[w.heap.size + 1 + 1]? = some (.cells #[.int .u64 0, .int .u64 0, .int .u64 0, .int .u64 0] 114 (0, 0)) ∧ Below w.heap.size w wr)) (fun si _ => 4 - (intOf si).toNat)
  case atStart => exact ⟨0, Nat.zero_le _, rfl, ⟨HR0.out, HR2.out, HJ.out⟩⟩
  case round =>
    obtain ⟨i, hi, rfl, HI⟩ := hrel
    rcases (show i = 0 ∨ i = 1 ∨ i = 2 ∨ i = 3 ∨ i = 4 by omega) with rfl | rfl | rfl | rfl | rfl
    · rw [show ((0 : Nat) : Int) = 0 from rfl]
      have c0 : wr.cell? ⟨w.heap.size, 0, none⟩ = some (.int .u64 (a : Int)) := (row4 HI.out.1).1.1
      have f0 : wr.frozen? ⟨w.heap.size, 0, none⟩ = false := (row4 HI.out.1).2.1
      have HN : Hid (_ ∧ _ ∧ _) := ⟨xset_row wr w.heap.size 0 _ _ _ (.int .u64 ((a &&& e : Nat) : Int)) HI.out.1, xset_other wr w.heap.size 0 (w.heap.size + 1 + 1) (.int .u64 ((a &&& e : Nat) : Int)) HI.out.2.1 (by omega), HI.out.2.2.setCell (p := ⟨w.heap.size, 0, none⟩) (Nat.le_refl _) (.int .u64 ((a &&& e : Nat) : Int))⟩
      clear HI
      go_wp2
      go_roundw
      case rel => exact ⟨1, by omega, rfl, HN.out⟩
      case measure => simp [intOf]
    · rw [show ((1 : Nat) : Int) = 1 from rfl]
      have c1 : wr.cell? ⟨w.heap.size, 1, none⟩ = some (.int .u64 (b : Int)) := (row4 HI.out.1).1.2.1
      have f1 : wr.frozen? ⟨w.heap.size, 1, none⟩ = false := (row4 HI.out.1).2.2.1
      have HN : Hid (_ ∧ _ ∧ _) := ⟨xset_row wr w.heap.size 1 _ _ _ (.int .u64 ((b &&& f : Nat) : Int)) HI.out.1, xset_other wr w.heap.size 1 (w.heap.size + 1 + 1) (.int .u64 ((b &&& f : Nat) : Int)) HI.out.2.1 (by omega), HI.out.2.2.setCell (p := ⟨w.heap.size, 1, none⟩) (Nat.le_refl _) (.int .u64 ((b &&& f : Nat) : Int))⟩
      clear HI
      go_wp2
      go_roundw
      case rel => exact ⟨2, by omega, rfl, HN.out⟩
      case measure => simp [intOf]
    · rw [show ((2 : Nat) : Int) = 2 from rfl]
      have c2 : wr.cell? ⟨w.heap.size, 2, none⟩ = some (.int .u64 (c : Int)) := (row4 HI.out.1).1.2.2.1
      have f2 : wr.frozen? ⟨w.heap.size, 2, none⟩ = false := (row4 HI.out.1).2.2.2.1
      have HN : Hid (_ ∧ _ ∧ _) := ⟨xset_row wr w.heap.size 2 _ _ _ (.int .u64 ((c &&& g : Nat) : Int)) HI.out.1, xset_other wr w.heap.size 2 (w.heap.size + 1 + 1) (.int .u64 ((c &&& g : Nat) : Int)) HI.out.2.1 (by omega), HI.out.2.2.setCell (p := ⟨w.heap.size, 2, none⟩) (Nat.le_refl _) (.int .u64 ((c &&& g : Nat) : Int))⟩
      clear HI
      go_wp2
      go_roundw
      case rel => exact ⟨3, by omega, rfl, HN.out⟩
      case measure => simp [intOf]
    · rw [show ((3 : Nat) : Int) = 3 from rfl]
      have c3 : wr.cell? ⟨w.heap.size, 3, none⟩ = some (.int .u64 (d : Int)) := (row4 HI.out.1).1.2.2.2
      have f3 : wr.frozen? ⟨w.heap.size, 3, none⟩ = false := (row4 HI.out.1).2.2.2.2
      have HN : Hid (_ ∧ _ ∧ _) := ⟨xset_row wr w.heap.size 3 _ _ _ (.int .u64 ((d &&& h : Nat) : Int)) HI.out.1, xset_other wr w.heap.size 3 (w.heap.size + 1 + 1) (.int .u64 ((d &&& h : Nat) : Int)) HI.out.2.1 (by omega), HI.out.2.2.setCell (p := ⟨w.heap.size, 3, none⟩) (Nat.le_refl _) (.int .u64 ((d &&& h : Nat) : Int))⟩
      clear HI
      go_wp2
      go_roundw
      case rel => exact ⟨4, by omega, rfl, HN.out⟩
      case measure => simp [intOf]
    · rw [show ((4 : Nat) : Int) = 4 from rfl]
      have c0 : wr.cell? ⟨w.heap.size, 0, none⟩ = some (.int .u64 ((a &&& e : Nat) : Int)) := (row4 HI.out.1).1.1
      have c1 : wr.cell? ⟨w.heap.size, 1, none⟩ = some (.int .u64 ((b &&& f : Nat) : Int)) := (row4 HI.out.1).1.2.1
      have c2 : wr.cell? ⟨w.heap.size, 2, none⟩ = some (.int .u64 ((c &&& g : Nat) : Int)) := (row4 HI.out.1).1.2.2.1
      have c3 : wr.cell? ⟨w.heap.size, 3, none⟩ = some (.int .u64 ((d &&& h : Nat) : Int)) := (row4 HI.out.1).1.2.2.2
      obtain ⟨⟨d0, d1, d2, d3⟩, e0, e1, e2, e3⟩ := row4 HI.out.2.1
      have HB : Hid _ := HI.out.2.2
      clear HI
      go_wp2
      refine bodyPost_ret (v := .agg #[.int .u64 ((a &&& e : Nat) : Int), .int .u64 ((b &&& f : Nat) : Int), .int .u64 ((c &&& g : Nat) : Int), .int .u64 ((d &&& h : Nat) : Int)]) (by simp [results, Tryz.results91, go_sem, *]) rfl ?_
      exact ⟨rfl, (((HB.out.setCell (p := ⟨w.heap.size + 1 + 1, 0, none⟩) (by simp only; omega) _).setCell (p := ⟨w.heap.size + 1 + 1, 1, none⟩) (by simp only; omega) _).setCell (p := ⟨w.heap.size + 1 + 1, 2, none⟩) (by simp only; omega) _).setCell (p := ⟨w.heap.size + 1 + 1, 3, none⟩) (by simp only; omega) _⟩
set_option maxHeartbeats 4000000 in
set_option maxRecDepth 100000 in
theorem setwo_any (a b c d e f g h : Nat) (ha : a < 18446744073709551616) (hb : b < 18446744073709551616) (hc : c < 18446744073709551616) (hd : d < 18446744073709551616) (he : e < 18446744073709551616) (hf : f < 18446744073709551616) (hg : g < 18446744073709551616) (hh : h < 18446744073709551616) (w : World) :
    Calls Tryz.prog 87 #[.agg #[.int .u64 (a : Int), .int .u64 (b : Int), .int .u64 (c : Int), .int .u64 (d : Int)], .agg #[.int .u64 (e : Int), .int .u64 (f : Int), .int .u64 (g : Int), .int .u64 (h : Int)]] w fun r w' => r = .returned (.agg #[.int .u64 ((a &&& (18446744073709551615 - e) : Nat) : Int), .int .u64 ((b &&& (18446744073709551615 - f) : Nat) : Int), .int .u64 ((c &&& (18446744073709551615 - g) : Nat) : Int), .int .u64 ((d &&& (18446744073709551615 - h) : Nat) : Int)]) ∧ Below w.heap.size w w' := by
  have o0 := u64_andNot_nat a e ha he
  have o1 := u64_andNot_nat b f hb hf
  have o2 := u64_andNot_nat c g hc hg
  have o3 := u64_andNot_nat d h hd hh
  have x0 : ∀ w, (Instr.index 114 (.agg #[.int .u64 (e : Int), .int .u64 (f : Int), .int .u64 (g : Int), .int .u64 (h : Int)]) (.int .i64 0)).run Tryz.prog w = .ok (.int .u64 (e : Int)) w := fun _ => by kernel_rfl
  have x1 : ∀ w, (Instr.index 114 (.agg #[.int .u64 (e : Int), .int .u64 (f : Int), .int .u64 (g : Int), .int .u64 (h : Int)]) (.int .i64 1)).run Tryz.prog w = .ok (.int .u64 (f : Int)) w := fun _ => by kernel_rfl
  have x2 : ∀ w, (Instr.index 114 (.agg #[.int .u64 (e : Int), .int .u64 (f : Int), .int .u64 (g : Int), .int .u64 (h : Int)]) (.int .i64 2)).run Tryz.prog w = .ok (.int .u64 (g : Int)) w := fun _ => by kernel_rfl
  have x3 : ∀ w, (Instr.index 114 (.agg #[.int .u64 (e : Int), .int .u64 (f : Int), .int .u64 (g : Int), .int .u64 (h : Int)]) (.int .i64 3)).run Tryz.prog w = .ok (.int .u64 (h : Int)) w := fun _ => by kernel_rfl
  obtain ⟨W0, hW0⟩ : ∃ W0, W0 = ((w.alloc (.cells #[.int .u64 (a : Int), .int .u64 (b : Int), .int .u64 (c : Int), .int .u64 (d : Int)] 114)).alloc (.cells #[.int .u64 (e : Int), .int .u64 (f : Int), .int .u64 (g : Int), .int .u64 (h : Int)] 114)).alloc (.cells #[.int .u64 0, .int .u64 0, .int .u64 0, .int .u64 0] 114) := ⟨_, rfl⟩
  have hJ : Below w.heap.size w W0 := by rw [hW0]; exact xal (xal (below1 _ _))
  have r0 : W0.heap[w.heap.size]? = some (.cells #[.int .u64 (a : Int), .int .u64 (b : Int), .int .u64 (c : Int), .int .u64 (d : Int)] 114 (0, 0)) := by rw [hW0]; exact heap_keep (below1 _ _) (heap_keep (below1 _ _) (heap_alloc_new w _))
  have r2 : W0.heap[w.heap.size + 1 + 1]? = some (.cells #[.int .u64 0, .int .u64 0, .int .u64 0, .int .u64 0] 114 (0, 0)) := by
    rw [hW0]
    have := heap_alloc_new ((w.alloc (.cells #[.int .u64 (a : Int), .int .u64 (b : Int), .int .u64 (c : Int), .int .u64 (d : Int)] 114)).alloc (.cells #[.int .u64 (e : Int), .int .u64 (f : Int), .int .u64 (g : Int), .int .u64 (h : Int)] 114)) (.cells #[.int .u64 0, .int .u64 0, .int .u64 0, .int .u64 0] 114)
    rwa [World.size_alloc, World.size_alloc] at this
  have HJ : Hid _ := hJ
  have HR0 : Hid _ := r0
  have HR2 : Hid _ := r2
  clear hJ r0 r2
  go_enter Tryz.func87, Tryz.ntmps87
  go_wp2
  rw [← hW0]
  have HW0 : Hid _ := hW0
  clear hW0
  go_loopw [8] (fun si wr => ∃ i : Nat, i ≤ 4 ∧ si = .int .i64 (i : Int) ∧ Hid (wr.heap[w.heap.size]? = some (.cells (mix i (.int .u64 (a : Int)) (.int .u64 (b : Int)) (.int .u64 (c : Int)) (.int .u64 (d : Int)) (.int .u64 ((a &&& (18446744073709551615 - e) : Nat) : Int)) (.int .u64 ((b &&& (18446744073709551615 - f) : Nat) : Int)) (.int .u64 ((c &&& (18446744073709551615 - g) : Nat) : Int)) (.int .u64 ((d &&& (18446744073709551615 - h) : Nat) : Int))) 114 (0, 0)) ∧ wr.heap[w.heap.size + 1 + 1]? = some (.cells #[.int .u64 0, .int .u64 0, .int .u64 0, .int .u64 0] 114 (0, 0)) ∧ Below w.heap.size w wr)) (fun si _ => 4 - (intOf si).toNat)
  case atStart => exact ⟨0, Nat.zero_le _, rfl, ⟨HR0.out, HR2.out, HJ.out⟩⟩
  case round =>
    obtain ⟨i, hi, rfl, HI⟩ := hrel
    rcases (show i = 0 ∨ i = 1 ∨ i = 2 ∨ i = 3 ∨ i = 4 by omega) with rfl | rfl | rfl | rfl | rfl
    · rw [show ((0 : Nat) : Int) = 0 from rfl]
      have c0 : wr.cell? ⟨w.heap.size, 0, none⟩ = some (.int .u64 (a : Int)) := (row4 HI.out.1).1.1
      have f0 : wr.frozen? ⟨w.heap.size, 0, none⟩ = false := (row4 HI.out.1).2.1
      have HN : Hid (_ ∧ _ ∧ _) := ⟨xset_row wr w.heap.size 0 _ _ _ (.int .u64 ((a &&& (18446744073709551615 - e) : Nat) : Int)) HI.out.1, xset_other wr w.heap.size 0 (w.heap.size + 1 + 1) (.int .u64 ((a &&& (18446744073709551615 - e) : Nat) : Int)) HI.out.2.1 (by omega), HI.out.2.2.setCell (p := ⟨w.heap.size, 0, none⟩) (Nat.le_refl _) (.int .u64 ((a &&& (18446744073709551615 - e) : Nat) : Int))⟩
      clear HI
      go_wp2
      go_roundw
      case rel => exact ⟨1, by omega, rfl, HN.out⟩
      case measure => simp [intOf]
    · rw [show ((1 : Nat) : Int) = 1 from rfl]
      have c1 : wr.cell? ⟨w.heap.size, 1, none⟩ = some (.int .u64 (b : Int)) := (row4 HI.out.1).1.2.1
      have f1 : wr.frozen? ⟨w.heap.size, 1, none⟩ = false := (row4 HI.out.1).2.2.1
      have HN : Hid (_ ∧ _ ∧ _) := ⟨xset_row wr w.heap.size 1 _ _ _ (.int .u64 ((b &&& (18446744073709551615 - f) : Nat) : Int)) HI.out.1, xset_other wr w.heap.size 1 (w.heap.size + 1 + 1) (.int .u64 ((b &&& (18446744073709551615 - f) : Nat) : Int)) HI.out.2.1 (by omega), HI.out.2.2.setCell (p := ⟨w.heap.size, 1, none⟩) (Nat.le_refl _) (.int .u64 ((b &&& (18446744073709551615 - f) : Nat) : Int))⟩
      clear HI
      go_wp2
      go_roundw
      case rel => exact ⟨2, by omega, rfl, HN.out⟩
      case measure => simp [intOf]
    · rw [show ((2 : Nat) : Int) = 2 from rfl]
      have c2 : wr.cell? ⟨w.heap.size, 2, none⟩ = some (.int .u64 (c : Int)) := (row4 HI.out.1).1.2.2.1
      have f2 : wr.frozen? ⟨w.heap.size, 2, none⟩ = false := (row4 HI.out.1).2.2.2.1
      have HN : Hid (_ ∧ _ ∧ _) := ⟨xset_row wr w.heap.size 2 _ _ _ (.int .u64 ((c &&& (18446744073709551615 - g) : Nat) : Int)) HI.out.1, xset_other wr w.heap.size 2 (w.heap.size + 1 + 1) (.int .u64 ((c &&& (18446744073709551615 - g) : Nat) : Int)) HI.out.2.1 (by omega), HI.out.2.2.setCell (p := ⟨w.heap.size, 2, none⟩) (Nat.le_refl _) (.int .u64 ((c &&& (18446744073709551615 - g) : Nat) : Int))⟩
      clear HI
      go_wp2
      go_roundw
      case rel => exact ⟨3, by omega, rfl, HN.out⟩
      case measure => simp [intOf]
    · rw [show ((3 : Nat) : Int) = 3 from rfl]
      have c3 : wr.cell? ⟨w.heap.size, 3, none⟩ = some (.int .u64 (d : Int)) := (row4 HI.out.1).1.2.2.2
      have f3 : wr.frozen? ⟨w.heap.size, 3, none⟩ = false := (row4 HI.out.1).2.2.2.2
      have HN : Hid (_ ∧ _ ∧ _) := ⟨xset_row wr w.heap.size 3 _ _ _ (.int .u64 ((d &&& (18446744073709551615 - h) : Nat) : Int)) HI.out.1, xset_other wr w.heap.size 3 (w.heap.size + 1 + 1) (.int .u64 ((d &&& (18446744073709551615 - h) : Nat) : Int)) HI.out.2.1 (by omega), HI.out.2.2.setCell (p := ⟨w.heap.size, 3, none⟩) (Nat.le_refl _) (.int .u64 ((d &&& (18446744073709551615 - h) : Nat) : Int))⟩
      clear HI
      go_wp2
      go_roundw
      case rel => exact ⟨4, by omega, rfl, HN.out⟩
      case measure => simp [intOf]
    · rw [show ((4 : Nat) : Int) = 4 from rfl]
      have c0 : wr.cell? ⟨w.heap.size, 0, none⟩ = some (.int .u64 ((a &&& (18446744073709551615 - e) : Nat) : Int)) := (row4 HI.out.1).1.1
      have c1 : wr.cell? ⟨w.heap.size, 1, none⟩ = some (.int .u64 ((b &&& (18446744073709551615 - f) : Nat) : Int)) := (row4 HI.out.1).1.2.1
      have c2 : wr.cell? ⟨w.heap.size, 2, none⟩ = some (.int .u64 ((c &&& (18446744073709551615 - g) : Nat) : Int)) := (row4 HI.out.1).1.2.2.1
      have c3 : wr.cell? ⟨w.heap.size, 3, none⟩ = some (.int .u64 ((d &&& (18446744073709551615 - h) : Nat) : Int)) := (row4 HI.out.1).1.2.2.2
      obtain ⟨⟨d0, d1, d2, d3⟩, e0, e1, e2, e3⟩ := row4 HI.out.2.1
      have HB : Hid _ := HI.out.2.2
      clear HI
      go_wp2
      refine bodyPost_ret (v := .agg #[.int .u64 ((a &&& (18446744073709551615 - e) : Nat) : Int), .int .u64 ((b &&& (18446744073709551615 - f) : Nat) : Int), .int .u64 ((c &&& (18446744073709551615 - g) : Nat) : Int), .int .u64 ((d &&& (18446744073709551615 - h) : Nat) : Int)]) (by simp [results, Tryz.results87, go_sem, *]) rfl ?_
      exact ⟨rfl, (((HB.out.setCell (p := ⟨w.heap.size + 1 + 1, 0, none⟩) (by simp only; omega) _).setCell (p := ⟨w.heap.size + 1 + 1, 1, none⟩) (by simp only; omega) _).setCell (p := ⟨w.heap.size + 1 + 1, 2, none⟩) (by simp only; omega) _).setCell (p := ⟨w.heap.size + 1 + 1, 3, none⟩) (by simp only; omega) _⟩
theorem eq4' (dd a b c d : Nat) (w : World) : (Op.equalIn (dd + 2) 114 (.agg #[.int .u64 (a : Int), .int .u64 (b : Int), .int .u64 (c : Int), .int .u64 (d : Int)]) (.agg #[.int .u64 0, .int .u64 0, .int .u64 0, .int .u64 0])).run Tryz.prog w = .ok (decide (a = 0 ∧ b = 0 ∧ c = 0 ∧ d = 0)) w := by
  have he := Tryz.underlying112
  have hsz : ∀ w, (sizeOf 112).run Tryz.prog w = .ok 1 w := fun w => by kernel_rfl
  have p : ∀ (x0 x1 x2 x3 : Value) (w : World), x0.oneCell' = true → x1.oneCell' = true → x2.oneCell' = true → x3.oneCell' = true → (Go.part 112 #[x0, x1, x2, x3] 0).run Tryz.prog w = .ok x0 w ∧ (Go.part 112 #[x0, x1, x2, x3] 1).run Tryz.prog w = .ok x1 w ∧ (Go.part 112 #[x0, x1, x2, x3] 2).run Tryz.prog w = .ok x2 w ∧ (Go.part 112 #[x0, x1, x2, x3] 3).run Tryz.prog w = .ok x3 w := fun x0 x1 x2 x3 w _ _ _ _ =>
    ⟨by simp [Go.part, isAgg, run_underlying he], by simp [Go.part, isAgg, run_underlying he], by simp [Go.part, isAgg, run_underlying he], by simp [Go.part, isAgg, run_underlying he]⟩
  rw [Op.equalIn]
  have px := p (.int .u64 (a : Int)) (.int .u64 (b : Int)) (.int .u64 (c : Int)) (.int .u64 (d : Int)) w rfl rfl rfl rfl
  have py := p (.int .u64 0) (.int .u64 0) (.int .u64 0) (.int .u64 0) w rfl rfl rfl rfl
  have pe : ∀ x : Nat, (Op.equalIn (dd + 1) 112 (.int .u64 (x : Int)) (.int .u64 0)).run Tryz.prog w = .ok (decide (x = 0)) w := fun x => by
    rw [run_equalIn_int w dd 112 .u64 .u64 _ _ he]
    have e : (((x : Int) == 0)) = decide (x = 0) := by rw [Bool.eq_iff_iff]; simp
    rw [e]
  obtain ⟨px0, px1, px2, px3⟩ := px
  obtain ⟨py0, py1, py2, py3⟩ := py
  simp only [Sem.run_bind, run_underlying Tryz.underlying114, Result.andThen_ok, hsz, Std.Legacy.Range.forIn_eq_forIn_range', Std.Legacy.Range.size, Nat.sub_zero, Nat.add_sub_cancel, Nat.div_one]
  rw [show List.range' 0 4 1 = [0, 1, 2, 3] from rfl]
  simp only [List.forIn_cons, List.forIn_nil, Sem.run_bind, Nat.mul_one, px0, py0, pe, Result.andThen_ok]
  cases hA : decide (a = 0)
  · have na : ¬ a = 0 := of_decide_eq_false hA
    simp [na]
  · have ya : a = 0 := of_decide_eq_true hA
    simp only [Bool.not_true, Bool.false_eq_true, if_false, Sem.run_pure, Sem.run_bind, Result.andThen_ok, px1, py1, pe]
    cases hB : decide (b = 0)
    · have nb : ¬ b = 0 := of_decide_eq_false hB
      simp [nb]
    · have yb : b = 0 := of_decide_eq_true hB
      simp only [Bool.not_true, Bool.false_eq_true, if_false, Sem.run_pure, Sem.run_bind, Result.andThen_ok, px2, py2, pe]
      cases hC : decide (c = 0)
      · have nc : ¬ c = 0 := of_decide_eq_false hC
        simp [nc]
      · have yc : c = 0 := of_decide_eq_true hC
        simp only [Bool.not_true, Bool.false_eq_true, if_false, Sem.run_pure, Sem.run_bind, Result.andThen_ok, px3, py3, pe]
        cases hD : decide (d = 0)
        · have nd : ¬ d = 0 := of_decide_eq_false hD
          simp [nd]
        · have yd : d = 0 := of_decide_eq_true hD
          simp [ya, yb, yc, yd]
theorem eq4 (a b c d : Nat) (w : World) : (Op.equalIn 10000 114 (.agg #[.int .u64 (a : Int), .int .u64 (b : Int), .int .u64 (c : Int), .int .u64 (d : Int)]) (.agg #[.int .u64 0, .int .u64 0, .int .u64 0, .int .u64 0])).run Tryz.prog w = .ok (decide (a = 0 ∧ b = 0 ∧ c = 0 ∧ d = 0)) w := eq4' 9998 a b c d w
theorem guard4 : Tryz.prog.eqGuardType Tryz.prog.depth 114 = false := by kernel_rfl
set_option maxHeartbeats 1000000 in
theorem setempty_any (a b c d : Nat) (w : World) : Calls Tryz.prog 88 #[.agg #[.int .u64 (a : Int), .int .u64 (b : Int), .int .u64 (c : Int), .int .u64 (d : Int)]] w fun r w' => r = .returned (.bool (decide (a = 0 ∧ b = 0 ∧ c = 0 ∧ d = 0))) ∧ Below w.heap.size w w' := by
  have hE := eq4 a b c d
  have hG := guard4
  generalize decide (a = 0 ∧ b = 0 ∧ c = 0 ∧ d = 0) = z at hE
  go_enter Tryz.func88, Tryz.ntmps88
  go_wp2
  go_ret
  exact ⟨rfl, below1 _ _⟩
end Go.Proofs.YtphjbbbnbmafnabGreatDoor.G

namespace Go.Proofs.YtphjbbbnbmafnabGreatDoor.G
open Go.RowKit

/-- the library's table of lowest bits, as it lies -/
def TzAt (w : World) : Prop := ∀ j, j < 64 → w.cell? ⟨0, j, none⟩ = some (.int .u8 ((Lib.deBruijn64tab.getD j 0 : Nat) : Int))
theorem TzAt.below {w w' : World} (h : TzAt w) (hB : Below w.heap.size w w') : TzAt w' := fun j hj => cell_kept hB _ _ (h j hj)
set_option maxHeartbeats 1000000 in
theorem tz_core (x k idx : Nat) (w : World) (hx0 : ((x : Int) == 0) = false)
    (key : IntKind.u64.wrap (bits BinOp.and IntKind.u64 (x : Int) (IntKind.u64.wrap (-(x : Int))) * 285870213051353865) / 288230376151711744 = (idx : Int))
    (hi : idx < 64) (hk : k < 64) (hcell : w.cell? ⟨0, idx, none⟩ = some (.int .u8 (k : Int))) :
    Calls Tryz.prog 131 #[.int .u64 (x : Int)] w fun e w' => e = .returned (.int .i64 (k : Int)) ∧ w' = w := by
  go_enter Tryz.func131, Tryz.ntmps131
  go_wp2_with (simp only [key])
  go_ret
  exact ⟨rfl, rfl⟩
theorem tz_any (x : Nat) (hx0 : x ≠ 0) (hx : x < 18446744073709551616) (w : World) (hT : TzAt w) : Calls Tryz.prog 131 #[.int .u64 (x : Int)] w fun e w' => e = .returned (.int .i64 ((Lib.ctz 64 x : Nat) : Int)) ∧ w' = w := by
  obtain ⟨hlow, hk⟩ := Lib.lowest_bit 64 x hx0 hx
  obtain ⟨hi, htab⟩ := Lib.deBruijn64_at _ hk
  have hcell := hT _ hi
  rw [htab] at hcell
  exact tz_core x _ _ w (by simp; omega) (Go.Proofs.tz64_key x _ hx hx0 hlow) hi hk hcell
theorem ctz_form (x : Nat) (hx0 : x ≠ 0) (hx : x < 18446744073709551616) : ∃ m, x = 2 ^ Lib.ctz 64 x * (2 * m + 1) ∧ Lib.ctz 64 x < 64 := by
  obtain ⟨m, h1, h2⟩ := Lib.ctzFrom_spec 64 x (by omega) hx
  have e : Lib.ctz 64 x = Lib.ctzFrom 64 x := by unfold Lib.ctz; simp [hx0]
  rw [e]
  exact ⟨m, h1, h2⟩
end Go.Proofs.YtphjbbbnbmafnabGreatDoor.G
