/-
  The edges to a span of nodes: placesTo, edgesOf by it, In: what they answer; new lists; nothing that was there is written.
-/
import Derived.Test.YtphjbbbnbmafnabGreatDoorPSp8
import Derived.Test.YtphjbbbnbmafnabGreatDoorPSp16
import Derived.Deep.DeepCutAuto
namespace Go.Proofs.YtphjbbbnbmafnabGreatDoor.G
open Go.RowKit

attribute [local go_sem ↓] Go.wp_at_zero Go.wp_at_succ
theorem set2_other {W : World} {N B o : Nat} {u v z : Value} (hne : B ≠ N) (h : W.cell? ⟨B, o, none⟩ = some z) : ((W.setCell ⟨N, 0, none⟩ u).setCell ⟨N, 1, none⟩ v).cell? ⟨B, o, none⟩ = some z := by
  rw [World.cell?_setCell_other _ ⟨N, 1, none⟩ ⟨B, o, none⟩ v (fun e => hne (congrArg Addr.block e).symm), World.cell?_setCell_other _ ⟨N, 0, none⟩ ⟨B, o, none⟩ u (fun e => hne (congrArg Addr.block e).symm)]
  exact h
/-- a span that was just made -/
theorem new_span (W : World) (N : Nat) (hN : W.heap.size = N) : (W.alloc (.cells #[.int .i64 0, .int .i64 0] 133)).cell? ⟨N, 0, none⟩ = some (.int .i64 0) ∧ (W.alloc (.cells #[.int .i64 0, .int .i64 0] 133)).cell? ⟨N, 1, none⟩ = some (.int .i64 0) ∧ (W.alloc (.cells #[.int .i64 0, .int .i64 0] 133)).frozen? ⟨N, 0, none⟩ = false ∧ (W.alloc (.cells #[.int .i64 0, .int .i64 0] 133)).frozen? ⟨N, 1, none⟩ = false ∧ N < (W.alloc (.cells #[.int .i64 0, .int .i64 0] 133)).heap.size := by
  subst hN
  have h := heap_alloc_new W (.cells #[.int .i64 0, .int .i64 0] 133)
  exact ⟨by rw [cell_of_row _ _ 0 _ _ _ h]; rfl, by rw [cell_of_row _ _ 1 _ _ _ h]; rfl, frozen_of_row _ _ 0 _ _ h, frozen_of_row _ _ 1 _ _ h, by simp⟩
/-- a span's cells as they lie, and may be written -/
def SpanAt (W : World) (N : Nat) : Prop := W.cell? ⟨N, 0, none⟩ = some (.int .i64 0) ∧ W.cell? ⟨N, 1, none⟩ = some (.int .i64 0) ∧ W.frozen? ⟨N, 0, none⟩ = false ∧ W.frozen? ⟨N, 1, none⟩ = false ∧ N < W.heap.size
theorem SpanAt.below {W W' : World} {N : Nat} (h : SpanAt W N) (hB : Below W.heap.size W W') : SpanAt W' N :=
  ⟨cell_kept hB _ _ h.1, cell_kept hB _ _ h.2.1, (hB.frozen (p := ⟨N, 0, none⟩) h.2.2.2.2).trans h.2.2.1, (hB.frozen (p := ⟨N, 1, none⟩) h.2.2.2.2).trans h.2.2.2.1, Nat.lt_of_lt_of_le h.2.2.2.2 hB.size⟩
theorem spanAt_new (W : World) (N : Nat) (hN : W.heap.size = N) : SpanAt (W.alloc (.cells #[.int .i64 0, .int .i64 0] 133)) N := new_span W N hN
theorem spanAt_drew {W : World} {N : Nat} (h : SpanAt W N) : SpanAt W.drew N := h
theorem set2_0 {W : World} {N : Nat} {u v : Value} (h : SpanAt W N) : ((W.setCell ⟨N, 0, none⟩ u).setCell ⟨N, 1, none⟩ v).cell? ⟨N, 0, none⟩ = some u := by
  rw [World.cell?_setCell_other _ ⟨N, 1, none⟩ ⟨N, 0, none⟩ v (fun e => by simp at e)]
  exact World.cell?_setCell_same _ _ _ h.1
theorem set2_1 {W : World} {N : Nat} {u v : Value} (h : SpanAt W N) : ((W.setCell ⟨N, 0, none⟩ u).setCell ⟨N, 1, none⟩ v).cell? ⟨N, 1, none⟩ = some v := by
  refine World.cell?_setCell_same _ _ _ (u := .int .i64 0) ?_
  rw [World.cell?_setCell_other _ ⟨N, 0, none⟩ ⟨N, 1, none⟩ u (fun e => by simp at e)]
  exact h.2.1
end Go.Proofs.YtphjbbbnbmafnabGreatDoor.G
