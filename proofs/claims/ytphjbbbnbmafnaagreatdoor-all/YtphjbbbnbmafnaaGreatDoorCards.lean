/-
  DERIVED. GIVEN WITH THE SEED: THE CARDS: each row of YtphjbbbnbmafnaaGreatDoorRows.lean that lists a variable, with what it lists TIED to the program's text (the seventh form; the later family's looks); each row that meets fmt, with fmt's text TOLD by the authors' own Lean function (tested against real Go, not proved from fmt's source: count such statements apart). THE CARD IS WHAT COUNTS. Prove the row's statement (the work); the ties are given (YtphjbbbnbmafnaaGreatDoorTie.lean); close each card by the builder's one call (the guide's Derived/Test/ToyasCard.lean, 'card_holds'). Laid BY PROGRAM, IN A SANDBOX (cutbox-door.mjs). By AI agents, Wed Nov 11 2026. No macro, syntax, notation, axiom, sorry.
-/
import Derived.Test.YtphjbbbnbmafnaaGreatDoorRows
import GoSem.ClaimSeven
namespace Go.Proofs.YtphjbbbnbmafnaaGreatDoor
namespace Rows

/-- THE TIED CARD OF 'trellislaw.Asks'. -/
def asksCard : Claim7 := { stood := { row := asksRow, standIns := [], harness := (true, "f5e27a950e86c817f653a400e697d61925ff19460b88760a8b1fdd902445e365"), looks := false }, kinds := [], alts := [], laidByText := true, laidKinds := [.data], laidTests := true, laidLooks := .later }
def AsksCardSaid : Prop := Claim7.holds Tryz.pinned (.plain (OpenSpec.ofChange asksSpec)) asksCard

/-- THE TIED CARD OF 'trellislaw.All'. -/
def allCard : Claim7 := { stood := { row := allRow, standIns := [], harness := (true, "f5e27a950e86c817f653a400e697d61925ff19460b88760a8b1fdd902445e365"), looks := false }, kinds := [], alts := [], laidByText := true, laidKinds := [.data], laidTests := true, laidLooks := .later }
def AllCardSaid : Prop := Claim7.holds Tryz.pinned (.plain (OpenSpec.ofChange allSpec)) allCard

/-- THE SECOND FORM's CARD OF 'trellislaw.Asks'. -/
def asksUptoCard : Claim7 := { stood := { row := asksUptoRow, standIns := [], harness := (true, "f5e27a950e86c817f653a400e697d61925ff19460b88760a8b1fdd902445e365"), looks := false }, kinds := [], alts := [], laidByText := true, laidKinds := [.data], laidTests := true, laidLooks := .later }
def AsksUptoCardSaid : Prop := Claim7.holds Tryz.pinned (.plain (OpenSpec.upto asksSpec)) asksUptoCard

/-- THE SECOND FORM's CARD OF 'trellislaw.All'. -/
def allUptoCard : Claim7 := { stood := { row := allUptoRow, standIns := [], harness := (true, "f5e27a950e86c817f653a400e697d61925ff19460b88760a8b1fdd902445e365"), looks := false }, kinds := [], alts := [], laidByText := true, laidKinds := [.data], laidTests := true, laidLooks := .later }
def AllUptoCardSaid : Prop := Claim7.holds Tryz.pinned (.plain (OpenSpec.upto allSpec)) allUptoCard
end Rows
end Go.Proofs.YtphjbbbnbmafnaaGreatDoor
