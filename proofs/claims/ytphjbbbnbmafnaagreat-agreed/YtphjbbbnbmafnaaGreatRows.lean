/-
  No cell of these rows narrows 'for every input' (looked for: loops, veiled, ifaces, maps, wideKeys, modest, calm, conditions, laid).
  DERIVED. THE GIVEN ROWS OF THIS SEAT. 4 by the template 'for every input the law returns true; each argument reads behind the call as it read before'; 0 by the template 'total and deterministic' (their statements: YtphjbbbnbmafnaaGreatTotals.lean).
  GIVEN WITH THE SEED: the statements are not yours to turn. If you find one false, say at which input.
  Laid BY PROGRAM, IN A SANDBOX (cutbox-rows.mjs): the forced cells as the released guide's own fill.sh prints them over the translation 5d30ac6e2572df46… (all of the seat's roots in one cut). By AI agents, Wed Nov 11 2026. No macro, syntax, notation, axiom, sorry.
-/
import Derived.Test.YtphjbbbnbmafnaaGreatChecked
import GoSem.Claim
import GoSem.ClaimJoined
import GoSem.ClaimMapViews
import Derived.JoinedTies
import Derived.KernelRfl
namespace Go.Proofs.YtphjbbbnbmafnaaGreat
/- THE CELL 'sum', in the pinned program and in every row, IS THE sha256 OF THE DUMP (.gsa) THAT YtphjbbbnbmafnaaGreatProg.lean LOADS. Nothing in Lean hashes anything: it is a label: what it is worth is what the hold of that sum in a sandbox is worth. -/
noncomputable def Tryz.pinned : Pinned := { name := "ytphjbbbnbmafnaagreat", sum := "5d30ac6e2572df46ed03087a730d29d19684d758768411e1c798f6a78d2f1c70", checked := Tryz.checked }
namespace Rows
def none {H : Type} : Left H := { results := [], args := [] }

/-- 'trellislaw.Opens': WHATEVER THE INPUT: true; the input reads as it did. -/
def opensSpec : ChangeSpec := { name := "opens", fn := fun _ => fun
  | [d] => { results := [.lit (.bool true)], args := [d] }
  | _ => none }
def opensRow : OpenClaim := { program := "ytphjbbbnbmafnaagreat", sum := "5d30ac6e2572df46ed03087a730d29d19684d758768411e1c798f6a78d2f1c70", func := "trellis/trellislaw.Opens", spec := "opens", inPlace := ["internal/abi.NoEscape"], unfollowed := true, recurses := true, apart := false }
def OpensSaid : Prop := opensRow.holds Tryz.pinned (OpenSpec.ofChange opensSpec)

/-- ITS FALSE NEIGHBOUR: 'it returns false'. Refute it at one input. -/
def opensWrong : ChangeSpec := { name := "opens", fn := fun _ => fun
  | [d] => { results := [.lit (.bool false)], args := [d] }
  | _ => none }
def OpensWrongFalsely : Prop := opensRow.holds Tryz.pinned (OpenSpec.ofChange opensWrong)

/-- 'trelliskeep.Back': WHATEVER THE INPUT: true; the input reads as it did. -/
def backSpec : ChangeSpec := { name := "back", fn := fun _ => fun
  | [d1, d2, d3] => { results := [.lit (.bool true)], args := [d1, d2, d3] }
  | _ => none }
def backRow : OpenClaim := { program := "ytphjbbbnbmafnaagreat", sum := "5d30ac6e2572df46ed03087a730d29d19684d758768411e1c798f6a78d2f1c70", func := "trellis/trelliskeep.Back", spec := "back", inPlace := ["internal/abi.NoEscape"], unfollowed := true, recurses := true, apart := false }
def BackSaid : Prop := backRow.holds Tryz.pinned (OpenSpec.ofChange backSpec)

/-- ITS FALSE NEIGHBOUR: 'it returns false'. Refute it at one input. -/
def backWrong : ChangeSpec := { name := "back", fn := fun _ => fun
  | [d1, d2, d3] => { results := [.lit (.bool false)], args := [d1, d2, d3] }
  | _ => none }
def BackWrongFalsely : Prop := backRow.holds Tryz.pinned (OpenSpec.ofChange backWrong)

/-- 'trelliskeep.Whatever': WHATEVER THE INPUT: true; the input reads as it did. -/
def whateverSpec : ChangeSpec := { name := "whatever", fn := fun _ => fun
  | [d] => { results := [.lit (.bool true)], args := [d] }
  | _ => none }
def whateverRow : OpenClaim := { program := "ytphjbbbnbmafnaagreat", sum := "5d30ac6e2572df46ed03087a730d29d19684d758768411e1c798f6a78d2f1c70", func := "trellis/trelliskeep.Whatever", spec := "whatever", inPlace := ["internal/abi.NoEscape"], unfollowed := true, recurses := true, apart := false }
def WhateverSaid : Prop := whateverRow.holds Tryz.pinned (OpenSpec.ofChange whateverSpec)

/-- ITS FALSE NEIGHBOUR: 'it returns false'. Refute it at one input. -/
def whateverWrong : ChangeSpec := { name := "whatever", fn := fun _ => fun
  | [d] => { results := [.lit (.bool false)], args := [d] }
  | _ => none }
def WhateverWrongFalsely : Prop := whateverRow.holds Tryz.pinned (OpenSpec.ofChange whateverWrong)

/-- 'trelliskeep.Agreed': WHATEVER THE INPUT: true; the input reads as it did. -/
def agreedSpec : ChangeSpec := { name := "agreed", fn := fun _ => fun
  | [d1, d2, d3, d4] => { results := [.lit (.bool true)], args := [d1, d2, d3, d4] }
  | _ => none }
def agreedRow : OpenClaim := { program := "ytphjbbbnbmafnaagreat", sum := "5d30ac6e2572df46ed03087a730d29d19684d758768411e1c798f6a78d2f1c70", func := "trellis/trelliskeep.Agreed", spec := "agreed", inPlace := ["internal/abi.NoEscape"], unfollowed := true, recurses := true, apart := false }
def AgreedSaid : Prop := agreedRow.holds Tryz.pinned (OpenSpec.ofChange agreedSpec)

/-- ITS FALSE NEIGHBOUR: 'it returns false'. Refute it at one input. -/
def agreedWrong : ChangeSpec := { name := "agreed", fn := fun _ => fun
  | [d1, d2, d3, d4] => { results := [.lit (.bool false)], args := [d1, d2, d3, d4] }
  | _ => none }
def AgreedWrongFalsely : Prop := agreedRow.holds Tryz.pinned (OpenSpec.ofChange agreedWrong)

/- THE SECOND FORM. 'bulk': how many values and letters a reading holds, each counted each time it is reached (what is shared counts as often as it is met; a slice's spare places count too). A statement '..UptoSaid' is the law's where the arguments, and the package variables that the reading takes, are together of bulk at most 1048576: NARROWER than '..Said'. Prove '..Said' where nothing that the law and all that it calls make is longer than what came in: it says more and counts as full. Else prove '..UptoSaid'. A law counts once. -/
mutual
def uptoBulk {H : Type} : DataW H → Nat
  | .lit (.string bytes) => bytes.length + 1
  | .lit _ => 1
  | .nil => 1
  | .ptr d => uptoBulk d + 1
  | .slice elems spare => uptoBulkAll elems + uptoBulkAll spare + 1
  | .agg parts => uptoBulkAll parts + 1
  | .iface _ d => uptoBulk d + 1
  | .map entries => uptoBulkEntries entries + 1
  | .held _ => 1
def uptoBulkAll {H : Type} : List (DataW H) → Nat
  | [] => 0
  | d :: r => uptoBulk d + uptoBulkAll r
def uptoBulkEntries {H : Type} : List (Lit × DataW H) → Nat
  | [] => 0
  | x :: r => uptoBulkEntry x + uptoBulkEntries r
def uptoBulkEntry {H : Type} : Lit × DataW H → Nat
  | (.string bytes, d) => bytes.length + uptoBulk d + 1
  | (_, d) => uptoBulk d + 1
 end
def uptoSmall : (H : Type) → List (DataW H) → Bool := fun _ ds => decide (uptoBulkAll ds ≤ 1048576)
def OpenSpec.upto (s : _root_.Go.ChangeSpec) : _root_.Go.OpenSpec := { _root_.Go.OpenSpec.ofChange s with cond := some uptoSmall }

/-- 'trellislaw.Opens', WHERE WHAT IT READS IS OF BULK AT MOST 1048576: true; the input reads as it did. -/
def opensUptoRow : OpenClaim := { program := "ytphjbbbnbmafnaagreat", sum := "5d30ac6e2572df46ed03087a730d29d19684d758768411e1c798f6a78d2f1c70", func := "trellis/trellislaw.Opens", spec := "opens", inPlace := ["internal/abi.NoEscape"], unfollowed := true, recurses := true, apart := false, narrowed := true }
def OpensUptoSaid : Prop := opensUptoRow.holds Tryz.pinned (OpenSpec.upto opensSpec)

/-- 'trelliskeep.Back', WHERE WHAT IT READS IS OF BULK AT MOST 1048576: true; the input reads as it did. -/
def backUptoRow : OpenClaim := { program := "ytphjbbbnbmafnaagreat", sum := "5d30ac6e2572df46ed03087a730d29d19684d758768411e1c798f6a78d2f1c70", func := "trellis/trelliskeep.Back", spec := "back", inPlace := ["internal/abi.NoEscape"], unfollowed := true, recurses := true, apart := false, narrowed := true }
def BackUptoSaid : Prop := backUptoRow.holds Tryz.pinned (OpenSpec.upto backSpec)

/-- 'trelliskeep.Whatever', WHERE WHAT IT READS IS OF BULK AT MOST 1048576: true; the input reads as it did. -/
def whateverUptoRow : OpenClaim := { program := "ytphjbbbnbmafnaagreat", sum := "5d30ac6e2572df46ed03087a730d29d19684d758768411e1c798f6a78d2f1c70", func := "trellis/trelliskeep.Whatever", spec := "whatever", inPlace := ["internal/abi.NoEscape"], unfollowed := true, recurses := true, apart := false, narrowed := true }
def WhateverUptoSaid : Prop := whateverUptoRow.holds Tryz.pinned (OpenSpec.upto whateverSpec)

/-- 'trelliskeep.Agreed', WHERE WHAT IT READS IS OF BULK AT MOST 1048576: true; the input reads as it did. -/
def agreedUptoRow : OpenClaim := { program := "ytphjbbbnbmafnaagreat", sum := "5d30ac6e2572df46ed03087a730d29d19684d758768411e1c798f6a78d2f1c70", func := "trellis/trelliskeep.Agreed", spec := "agreed", inPlace := ["internal/abi.NoEscape"], unfollowed := true, recurses := true, apart := false, narrowed := true }
def AgreedUptoSaid : Prop := agreedUptoRow.holds Tryz.pinned (OpenSpec.upto agreedSpec)

end Rows
end Go.Proofs.YtphjbbbnbmafnaaGreat
