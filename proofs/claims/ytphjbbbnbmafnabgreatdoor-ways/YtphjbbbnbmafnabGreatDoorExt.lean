/-
  A region that draws its order, reads, and calls what makes new memory alone.
-/
import Derived.Test.YtphjbbbnbmafnabGreatDoorRefG
import Derived.BigQuiet
namespace Go.Proofs.YtphjbbbnbmafnabGreatDoor.G
open Go.RowKit

/-- a world behind W0 that has nothing but new memory besides; W0 itself, where u is none -/
noncomputable def ext (W0 u : World) : World := by
  classical
  exact if Below W0.heap.size W0 u then u else W0
theorem ext_below (W0 u : World) : Below W0.heap.size W0 (ext W0 u) := by
  unfold ext
  split
  · assumption
  · exact Below.refl _ _
theorem ext_of {W0 u : World} (h : Below W0.heap.size W0 u) : u = ext W0 u := by
  unfold ext
  rw [if_pos h]
theorem ext_cell {W0 : World} {p : Addr} {v : Value} (h : W0.cell? p = some v) (u : World) : (ext W0 u).cell? p = some v := cell_kept (ext_below W0 u) _ _ h
/-- a region that draws its order, reads, and calls what makes new memory alone: one walk in the order of the text -/
theorem wp_region_ext {P : Program} {id : Nat} {Q : Exit → Act → World → Prop} {a : Act} {w : World} {l : List Oper} (hm : P.follows .mixedOrders = true) (hB : Region.lexB .any l.toArray = true)
    (h : wpQuiet P l.toArray (fun w' => ∃ u, w' = ext w u) (fun a' => ∀ w', (∃ u, w' = ext w u) → Q .normal a' w') l a) : (Code.region id l.toArray true).wp P Q a w :=
  wp_region_quiet (C := fun w' => ∃ u, w' = ext w u) hm hB ⟨w.drew, ext_of ((Below.refl _ _).drew)⟩ (by simpa using h)
end Go.Proofs.YtphjbbbnbmafnabGreatDoor.G
