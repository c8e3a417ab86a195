/-
  DERIVED. GIVEN WITH THE SEED: THE CARDS: each row of YtphjbbbnbmafnabGreatDoorRows.lean that lists a variable, with what it lists TIED to the program's text (the seventh form; the later family's looks); each row that meets fmt, with fmt's text TOLD by the authors' own Lean function (tested against real Go, not proved from fmt's source: count such statements apart). THE CARD IS WHAT COUNTS. Prove the row's statement (the work); the ties are given (YtphjbbbnbmafnabGreatDoorTie.lean); close each card by the builder's one call (the guide's Derived/Test/ToyasCard.lean, 'card_holds'). Laid BY PROGRAM, IN A SANDBOX (cutbox-door.mjs). By AI agents, Wed Nov 11 2026. No macro, syntax, notation, axiom, sorry.
-/
import Derived.Test.YtphjbbbnbmafnabGreatDoorRows
import GoSem.ClaimSeven
namespace Go.Proofs.YtphjbbbnbmafnabGreatDoor
namespace Rows

/-- THE TIED CARD OF 'trelliskeep.Ways'. -/
def waysCard : Claim7 := { stood := { row := waysRow, standIns := [], harness := (true, "58fabe2681a97fe9c2306392deb1012c073af0cd4828bf1c8ac76fb6ec8b386a"), looks := false }, kinds := [], alts := [], laidByText := true, laidKinds := [.data], laidTests := true, laidLooks := .later }
def WaysCardSaid : Prop := Claim7.holds Tryz.pinned (.plain (OpenSpec.ofChange waysSpec)) waysCard

/-- THE SECOND FORM's CARD OF 'trelliskeep.Ways'. -/
def waysUptoCard : Claim7 := { stood := { row := waysUptoRow, standIns := [], harness := (true, "58fabe2681a97fe9c2306392deb1012c073af0cd4828bf1c8ac76fb6ec8b386a"), looks := false }, kinds := [], alts := [], laidByText := true, laidKinds := [.data], laidTests := true, laidLooks := .later }
def WaysUptoCardSaid : Prop := Claim7.holds Tryz.pinned (.plain (OpenSpec.upto waysSpec)) waysUptoCard
end Rows
end Go.Proofs.YtphjbbbnbmafnabGreatDoor
