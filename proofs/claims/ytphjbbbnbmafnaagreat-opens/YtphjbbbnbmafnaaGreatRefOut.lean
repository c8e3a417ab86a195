/-
  The document's own Out and In over its graph (trellisref.Graph): a new list of those edges from (to) a node, in their order, or ErrRange; nothing that was there is written.
-/
import Derived.Test.YtphjbbbnbmafnaaGreatEdges
namespace Go.Proofs.YtphjbbbnbmafnaaGreat.G
open Go.RowKit

/-- the document's graph in memory -/
structure RGraph (w : World) (b : Nat) (n s : Int) (v : Value) (l : List E3) : Prop where
  cn : w.cell? ⟨b, 0, none⟩ = some (.int .i64 n)
  cs : w.cell? ⟨b, 1, none⟩ = some (.int .i64 s)
  ce : w.cell? ⟨b, 2, none⟩ = some v
  ed : EdgesAt w v l
theorem RGraph.below {w w' : World} {b : Nat} {n s : Int} {v : Value} {l : List E3} (h : RGraph w b n s v l) (hB : Below w.heap.size w w') : RGraph w' b n s v l :=
  ⟨cell_kept hB _ _ h.cn, cell_kept hB _ _ h.cs, cell_kept hB _ _ h.ce, h.ed.below hB⟩
end Go.Proofs.YtphjbbbnbmafnaaGreat.G
