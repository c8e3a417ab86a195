/-
  No cell of these rows narrows 'for every input' (looked for: loops, veiled, ifaces, maps, wideKeys, modest, calm, conditions, laid).
  DERIVED. THE GIVEN ROWS OF THIS SEAT. 6 by the template 'for every input the law returns true; each argument reads behind the call as it read before'; 0 by the template 'total and deterministic' (their statements: YtphjbbbnbmafnaaTotals.lean).
  GIVEN WITH THE SEED: the statements are not yours to turn. If you find one false, say at which input.
  Laid BY PROGRAM, IN A SANDBOX (cutbox-rows.mjs): the forced cells as the released guide's own fill.sh prints them over the translation 5325b3a26233ad6b… (all of the seat's roots in one cut). By AI agents, Wed Nov 11 2026. No macro, syntax, notation, axiom, sorry.
-/
import Derived.Test.YtphjbbbnbmafnaaChecked
import GoSem.Claim
import GoSem.ClaimJoined
import GoSem.ClaimMapViews
import Derived.JoinedTies
import Derived.KernelRfl
namespace Go.Proofs.Ytphjbbbnbmafnaa
/- THE CELL 'sum', in the pinned program and in every row, IS THE sha256 OF THE DUMP (.gsa) THAT YtphjbbbnbmafnaaProg.lean LOADS. Nothing in Lean hashes anything: it is a label: what it is worth is what the hold of that sum in a sandbox is worth. -/
noncomputable def Try.pinned : Pinned := { name := "ytphjbbbnbmafnaa", sum := "5325b3a26233ad6b998172fb05cfd228d59902dc677c57a64096beeeddafc248", checked := Try.checked }
namespace Rows
def none {H : Type} : Left H := { results := [], args := [] }

/-- 'trellislaw.Vectors': WHATEVER THE INPUT: true; the input reads as it did. -/
def vectorsSpec : ChangeSpec := { name := "vectors", fn := fun _ => fun
  | [d1, d2, d3] => { results := [.lit (.bool true)], args := [d1, d2, d3] }
  | _ => none }
def vectorsRow : OpenClaim := { program := "ytphjbbbnbmafnaa", sum := "5325b3a26233ad6b998172fb05cfd228d59902dc677c57a64096beeeddafc248", func := "trellis/trellislaw.Vectors", spec := "vectors", unfollowed := true, recurses := true, apart := false }
def VectorsSaid : Prop := vectorsRow.holds Try.pinned (OpenSpec.ofChange vectorsSpec)

/-- ITS FALSE NEIGHBOUR: 'it returns false'. Refute it at one input. -/
def vectorsWrong : ChangeSpec := { name := "vectors", fn := fun _ => fun
  | [d1, d2, d3] => { results := [.lit (.bool false)], args := [d1, d2, d3] }
  | _ => none }
def VectorsWrongFalsely : Prop := vectorsRow.holds Try.pinned (OpenSpec.ofChange vectorsWrong)

/-- 'trelliskeep.Inverse': WHATEVER THE INPUT: true; the input reads as it did. -/
def inverseSpec : ChangeSpec := { name := "inverse", fn := fun _ => fun
  | [d1, d2] => { results := [.lit (.bool true)], args := [d1, d2] }
  | _ => none }
def inverseRow : OpenClaim := { program := "ytphjbbbnbmafnaa", sum := "5325b3a26233ad6b998172fb05cfd228d59902dc677c57a64096beeeddafc248", func := "trellis/trelliskeep.Inverse", spec := "inverse", unfollowed := true, recurses := true, apart := false }
def InverseSaid : Prop := inverseRow.holds Try.pinned (OpenSpec.ofChange inverseSpec)

/-- ITS FALSE NEIGHBOUR: 'it returns false'. Refute it at one input. -/
def inverseWrong : ChangeSpec := { name := "inverse", fn := fun _ => fun
  | [d1, d2] => { results := [.lit (.bool false)], args := [d1, d2] }
  | _ => none }
def InverseWrongFalsely : Prop := inverseRow.holds Try.pinned (OpenSpec.ofChange inverseWrong)

/-- 'trellislaw.Sequences': WHATEVER THE INPUT: true; the input reads as it did. -/
def sequencesSpec : ChangeSpec := { name := "sequences", fn := fun _ => fun
  | [d1, d2, d3] => { results := [.lit (.bool true)], args := [d1, d2, d3] }
  | _ => none }
def sequencesRow : OpenClaim := { program := "ytphjbbbnbmafnaa", sum := "5325b3a26233ad6b998172fb05cfd228d59902dc677c57a64096beeeddafc248", func := "trellis/trellislaw.Sequences", spec := "sequences", unfollowed := true, recurses := true, apart := false }
def SequencesSaid : Prop := sequencesRow.holds Try.pinned (OpenSpec.ofChange sequencesSpec)

/-- ITS FALSE NEIGHBOUR: 'it returns false'. Refute it at one input. -/
def sequencesWrong : ChangeSpec := { name := "sequences", fn := fun _ => fun
  | [d1, d2, d3] => { results := [.lit (.bool false)], args := [d1, d2, d3] }
  | _ => none }
def SequencesWrongFalsely : Prop := sequencesRow.holds Try.pinned (OpenSpec.ofChange sequencesWrong)

/-- 'trelliskeep.Counted': WHATEVER THE INPUT: true; the input reads as it did. -/
def countedSpec : ChangeSpec := { name := "counted", fn := fun _ => fun
  | [d1, d2, d3, d4] => { results := [.lit (.bool true)], args := [d1, d2, d3, d4] }
  | _ => none }
def countedRow : OpenClaim := { program := "ytphjbbbnbmafnaa", sum := "5325b3a26233ad6b998172fb05cfd228d59902dc677c57a64096beeeddafc248", func := "trellis/trelliskeep.Counted", spec := "counted", unfollowed := true, recurses := true, apart := false }
def CountedSaid : Prop := countedRow.holds Try.pinned (OpenSpec.ofChange countedSpec)

/-- ITS FALSE NEIGHBOUR: 'it returns false'. Refute it at one input. -/
def countedWrong : ChangeSpec := { name := "counted", fn := fun _ => fun
  | [d1, d2, d3, d4] => { results := [.lit (.bool false)], args := [d1, d2, d3, d4] }
  | _ => none }
def CountedWrongFalsely : Prop := countedRow.holds Try.pinned (OpenSpec.ofChange countedWrong)

/-- 'trellislaw.Builds': WHATEVER THE INPUT: true; the input reads as it did. -/
def buildsSpec : ChangeSpec := { name := "builds", fn := fun _ => fun
  | [d1, d2, d3] => { results := [.lit (.bool true)], args := [d1, d2, d3] }
  | _ => none }
def buildsRow : OpenClaim := { program := "ytphjbbbnbmafnaa", sum := "5325b3a26233ad6b998172fb05cfd228d59902dc677c57a64096beeeddafc248", func := "trellis/trellislaw.Builds", spec := "builds", inPlace := ["internal/abi.NoEscape"], unfollowed := true, recurses := true, apart := false }
def BuildsSaid : Prop := buildsRow.holds Try.pinned (OpenSpec.ofChange buildsSpec)

/-- ITS FALSE NEIGHBOUR: 'it returns false'. Refute it at one input. -/
def buildsWrong : ChangeSpec := { name := "builds", fn := fun _ => fun
  | [d1, d2, d3] => { results := [.lit (.bool false)], args := [d1, d2, d3] }
  | _ => none }
def BuildsWrongFalsely : Prop := buildsRow.holds Try.pinned (OpenSpec.ofChange buildsWrong)

/-- 'trelliskeep.Burst': WHATEVER THE INPUT: true; the input reads as it did. -/
def burstSpec : ChangeSpec := { name := "burst", fn := fun _ => fun
  | [d1, d2, d3, d4] => { results := [.lit (.bool true)], args := [d1, d2, d3, d4] }
  | _ => none }
def burstRow : OpenClaim := { program := "ytphjbbbnbmafnaa", sum := "5325b3a26233ad6b998172fb05cfd228d59902dc677c57a64096beeeddafc248", func := "trellis/trelliskeep.Burst", spec := "burst", inPlace := ["internal/abi.NoEscape"], unfollowed := true, recurses := true, apart := false }
def BurstSaid : Prop := burstRow.holds Try.pinned (OpenSpec.ofChange burstSpec)

/-- ITS FALSE NEIGHBOUR: 'it returns false'. Refute it at one input. -/
def burstWrong : ChangeSpec := { name := "burst", fn := fun _ => fun
  | [d1, d2, d3, d4] => { results := [.lit (.bool false)], args := [d1, d2, d3, d4] }
  | _ => none }
def BurstWrongFalsely : Prop := burstRow.holds Try.pinned (OpenSpec.ofChange burstWrong)

/- THE SECOND FORM. 'bulk': how many values and letters a reading holds, each counted each time it is reached (what is shared counts as often as it is met; a slice's spare places count too). A statement '..UptoSaid' is the law's where the arguments, and the package variables that the reading takes, are together of bulk at most 1048576: NARROWER than '..Said'. Prove '..Said' where nothing that the law and all that it calls make is longer than what came in: it says more and counts as full. Else prove '..UptoSaid'. A law counts once. -/
mutual
def uptoBulk {H : Type} : DataW H → Nat
  | .lit (.string bytes) => bytes.length + 1
  | .lit _ => 1
  | .nil => 1
  | .ptr d => uptoBulk d + 1
  | .slice elems spare => uptoBulkAll elems + uptoBulkAll spare + 1
  | .agg parts => uptoBulkAll parts + 1
  | .iface _ d => uptoBulk d + 1
  | .map entries => uptoBulkEntries entries + 1
  | .held _ => 1
def uptoBulkAll {H : Type} : List (DataW H) → Nat
  | [] => 0
  | d :: r => uptoBulk d + uptoBulkAll r
def uptoBulkEntries {H : Type} : List (Lit × DataW H) → Nat
  | [] => 0
  | x :: r => uptoBulkEntry x + uptoBulkEntries r
def uptoBulkEntry {H : Type} : Lit × DataW H → Nat
  | (.string bytes, d) => bytes.length + uptoBulk d + 1
  | (_, d) => uptoBulk d + 1
 end
def uptoSmall : (H : Type) → List (DataW H) → Bool := fun _ ds => decide (uptoBulkAll ds ≤ 1048576)
def OpenSpec.upto (s : _root_.Go.ChangeSpec) : _root_.Go.OpenSpec := { _root_.Go.OpenSpec.ofChange s with cond := some uptoSmall }

/-- 'trellislaw.Vectors', WHERE WHAT IT READS IS OF BULK AT MOST 1048576: true; the input reads as it did. -/
def vectorsUptoRow : OpenClaim := { program := "ytphjbbbnbmafnaa", sum := "5325b3a26233ad6b998172fb05cfd228d59902dc677c57a64096beeeddafc248", func := "trellis/trellislaw.Vectors", spec := "vectors", unfollowed := true, recurses := true, apart := false, narrowed := true }
def VectorsUptoSaid : Prop := vectorsUptoRow.holds Try.pinned (OpenSpec.upto vectorsSpec)

/-- 'trelliskeep.Inverse', WHERE WHAT IT READS IS OF BULK AT MOST 1048576: true; the input reads as it did. -/
def inverseUptoRow : OpenClaim := { program := "ytphjbbbnbmafnaa", sum := "5325b3a26233ad6b998172fb05cfd228d59902dc677c57a64096beeeddafc248", func := "trellis/trelliskeep.Inverse", spec := "inverse", unfollowed := true, recurses := true, apart := false, narrowed := true }
def InverseUptoSaid : Prop := inverseUptoRow.holds Try.pinned (OpenSpec.upto inverseSpec)

/-- 'trellislaw.Sequences', WHERE WHAT IT READS IS OF BULK AT MOST 1048576: true; the input reads as it did. -/
def sequencesUptoRow : OpenClaim := { program := "ytphjbbbnbmafnaa", sum := "5325b3a26233ad6b998172fb05cfd228d59902dc677c57a64096beeeddafc248", func := "trellis/trellislaw.Sequences", spec := "sequences", unfollowed := true, recurses := true, apart := false, narrowed := true }
def SequencesUptoSaid : Prop := sequencesUptoRow.holds Try.pinned (OpenSpec.upto sequencesSpec)

/-- 'trelliskeep.Counted', WHERE WHAT IT READS IS OF BULK AT MOST 1048576: true; the input reads as it did. -/
def countedUptoRow : OpenClaim := { program := "ytphjbbbnbmafnaa", sum := "5325b3a26233ad6b998172fb05cfd228d59902dc677c57a64096beeeddafc248", func := "trellis/trelliskeep.Counted", spec := "counted", unfollowed := true, recurses := true, apart := false, narrowed := true }
def CountedUptoSaid : Prop := countedUptoRow.holds Try.pinned (OpenSpec.upto countedSpec)

/-- 'trellislaw.Builds', WHERE WHAT IT READS IS OF BULK AT MOST 1048576: true; the input reads as it did. -/
def buildsUptoRow : OpenClaim := { program := "ytphjbbbnbmafnaa", sum := "5325b3a26233ad6b998172fb05cfd228d59902dc677c57a64096beeeddafc248", func := "trellis/trellislaw.Builds", spec := "builds", inPlace := ["internal/abi.NoEscape"], unfollowed := true, recurses := true, apart := false, narrowed := true }
def BuildsUptoSaid : Prop := buildsUptoRow.holds Try.pinned (OpenSpec.upto buildsSpec)

/-- 'trelliskeep.Burst', WHERE WHAT IT READS IS OF BULK AT MOST 1048576: true; the input reads as it did. -/
def burstUptoRow : OpenClaim := { program := "ytphjbbbnbmafnaa", sum := "5325b3a26233ad6b998172fb05cfd228d59902dc677c57a64096beeeddafc248", func := "trellis/trelliskeep.Burst", spec := "burst", inPlace := ["internal/abi.NoEscape"], unfollowed := true, recurses := true, apart := false, narrowed := true }
def BurstUptoSaid : Prop := burstUptoRow.holds Try.pinned (OpenSpec.upto burstSpec)

end Rows
end Go.Proofs.Ytphjbbbnbmafnaa
