/-
  Edges that lie in memory as a slice of Go, and rows of edges of one's own.
-/
import Derived.Test.YtphjbbbnbmafnabGreatDoorRefG
import Derived.OwnWalk
namespace Go.Proofs.YtphjbbbnbmafnabGreatDoor.G
open Go.RowKit

/-- an edge: from, label, to -/
abbrev E3 := Int × Int × Int
def flat (l : List E3) : List Value := l.flatMap fun e => [.int .i64 e.1, .int .i64 e.2.1, .int .i64 e.2.2]
theorem flat_len (l : List E3) : (flat l).length = l.length * 3 := by
  induction l with
  | nil => rfl
  | cons e l ih => unfold flat at *; rw [List.flatMap_cons, List.length_append, ih]; simp; omega
theorem flat_snoc (l : List E3) (e : E3) : flat (l ++ [e]) = flat l ++ [.int .i64 e.1, .int .i64 e.2.1, .int .i64 e.2.2] := by unfold flat; simp
/-- a slice of edges in memory -/
def EdgesAt (w : World) (v : Value) (l : List E3) : Prop :=
  ∃ a0 cap, v = .slice a0 l.length cap ∧ ∀ (j : Nat) (e : E3), l[j]? = some e → ∃ g off, a0 = some ⟨g, off, none⟩ ∧ w.cell? ⟨g, off + j * 3, none⟩ = some (.int .i64 e.1) ∧ w.cell? ⟨g, off + j * 3 + 1, none⟩ = some (.int .i64 e.2.1) ∧ w.cell? ⟨g, off + j * 3 + 2, none⟩ = some (.int .i64 e.2.2)
theorem EdgesAt.below {w w' : World} {v : Value} {l : List E3} (h : EdgesAt w v l) (hB : Below w.heap.size w w') : EdgesAt w' v l := by
  obtain ⟨a0, cap, hv, h⟩ := h
  refine ⟨a0, cap, hv, fun j e hj => ?_⟩
  obtain ⟨g, off, h1, h2, h3, h4⟩ := h j e hj
  exact ⟨g, off, h1, cell_kept hB _ _ h2, cell_kept hB _ _ h3, cell_kept hB _ _ h4⟩
theorem Tryz.infoE : (Tryz.prog.info? 41).map (fun i => (i.zero, i.size, i.bytes)) = some (some (.agg #[.int .i64 0, .int .i64 0, .int .i64 0]), 3, 24) := by kernel_rfl
/-- a row of edges of one's own -/
def OwnE (w wr : World) (v : Value) (l : List E3) : Prop := wr.ownsRow w.heap.size 41 3 v l.length (flat l) ∧ Below w.heap.size w wr
theorem ownE_snoc {w wr w2 : World} {v v' : Value} {l : List E3} {e : E3} {o : Obj} (h : OwnE w wr v l) (hown : w2.ownsRow w.heap.size 41 3 v' (l.length + 1) (flat l ++ [.int .i64 e.1, .int .i64 e.2.1, .int .i64 e.2.2])) (hg : (wr.alloc o).grownBy w2 v.ownBlock) : OwnE w w2 v' (l ++ [e]) := by
  refine ⟨by rw [flat_snoc, List.length_append]; exact hown, ?_⟩
  exact (h.2.alloc h.2.size o).grown hg (by have := h.2.size; simp; omega) (fun j hj => (h.1.lt j hj).1)
theorem src3 (w : World) (a b c : Value) (t : TypeId) (j : Nat) (u : Value) (hj : [a, b, c][j]? = some u) : (w.alloc (.cells #[a, b, c] t)).cell? ((⟨w.heap.size, 0, none⟩ : Addr).add j) = some u := by
  match j, hj with
  | 0, hj => simp at hj; subst hj; simp [Addr.add]
  | 1, hj => simp at hj; subst hj; simp [Addr.add]
  | 2, hj => simp at hj; subst hj; simp [Addr.add]
  | j + 3, hj => simp at hj
theorem one3 (a b c : Int) (u : Value) (hu : u ∈ [Value.int .i64 a, .int .i64 b, .int .i64 c]) : u.oneCell' = true := by
  simp at hu
  rcases hu with rfl | rfl | rfl <;> rfl
theorem le_alloc3 {B : Nat} {w : World} {o : Obj} (h : B ≤ w.heap.size) : B ≤ (w.alloc o).heap.size := by simp; omega
theorem take_filter {p : E3 → Bool} {l : List E3} {k : Nat} {e : E3} (h : l[k]? = some e) : (l.take (k + 1)).filter p = (l.take k).filter p ++ (if p e then [e] else []) := by
  rw [List.take_add_one, h, List.filter_append]
  congr 1
  simp only [Option.toList_some, List.filter_cons, List.filter_nil]

end Go.Proofs.YtphjbbbnbmafnabGreatDoor.G
