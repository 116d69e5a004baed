/-
  DERIVED. GIVEN WITH THE SEED: THE CARDS: each row of YtjngfebacobegaaGreatDoorRows.lean that lists a variable, with what it lists TIED to the program's text (the seventh form; the later family's looks); each row that meets fmt, with fmt's text TOLD by the authors' own Lean function (tested against real Go, not proved from fmt's source: count such statements apart). THE CARD IS WHAT COUNTS. Prove the row's statement (the work); the ties are given (YtjngfebacobegaaGreatDoorTie.lean); close each card by the builder's one call (the guide's Derived/Test/ToyasCard.lean, 'card_holds'). Laid BY PROGRAM, IN A SANDBOX (cutbox-door.mjs). By AI agents, Wed Nov 11 2026. No macro, syntax, notation, axiom, sorry.
-/
import Derived.Test.YtjngfebacobegaaGreatDoorRows
import GoSem.ClaimSeven
namespace Go.Proofs.YtjngfebacobegaaGreatDoor
namespace Rows

/-- THE TIED CARD OF 'deponentlaw.Single'. -/
def singleCard : Claim7 := { stood := { row := singleRow, standIns := [], harness := (true, "4d3b105cc72a743a0a57bce8394646cef461471c2950b5f15302858ae5dad048"), looks := true }, kinds := [], alts := [], laidByText := true, laidKinds := [.sentinel], laidTests := true, laidLooks := .later }
def SingleCardSaid : Prop := Claim7.holds Tryz.pinned (.plain (OpenSpec.ofChange singleSpec)) singleCard

/-- THE TIED CARD OF 'deponentlaw.Runs'. -/
def runsCard : Claim7 := { stood := { row := runsRow, standIns := [], harness := (true, "4d3b105cc72a743a0a57bce8394646cef461471c2950b5f15302858ae5dad048"), looks := true }, kinds := [], alts := [], laidByText := true, laidKinds := [.sentinel], laidTests := true, laidLooks := .later }
def RunsCardSaid : Prop := Claim7.holds Tryz.pinned (.plain (OpenSpec.ofChange runsSpec)) runsCard

/-- THE TIED CARD OF 'deponentlaw.Shows'. -/
def showsCard : Claim7 := { stood := { row := showsRow, standIns := [], harness := (true, "4d3b105cc72a743a0a57bce8394646cef461471c2950b5f15302858ae5dad048"), looks := true }, kinds := [], alts := [], laidByText := true, laidKinds := [.sentinel], laidTests := true, laidLooks := .later }
def ShowsCardSaid : Prop := Claim7.holds Tryz.pinned (.plain (OpenSpec.ofChange showsSpec)) showsCard

/-- THE SECOND FORM's CARD OF 'deponentlaw.Single'. -/
def singleUptoCard : Claim7 := { stood := { row := singleUptoRow, standIns := [], harness := (true, "4d3b105cc72a743a0a57bce8394646cef461471c2950b5f15302858ae5dad048"), looks := true }, kinds := [], alts := [], laidByText := true, laidKinds := [.sentinel], laidTests := true, laidLooks := .later }
def SingleUptoCardSaid : Prop := Claim7.holds Tryz.pinned (.plain (OpenSpec.upto singleSpec)) singleUptoCard

/-- THE SECOND FORM's CARD OF 'deponentlaw.Runs'. -/
def runsUptoCard : Claim7 := { stood := { row := runsUptoRow, standIns := [], harness := (true, "4d3b105cc72a743a0a57bce8394646cef461471c2950b5f15302858ae5dad048"), looks := true }, kinds := [], alts := [], laidByText := true, laidKinds := [.sentinel], laidTests := true, laidLooks := .later }
def RunsUptoCardSaid : Prop := Claim7.holds Tryz.pinned (.plain (OpenSpec.upto runsSpec)) runsUptoCard

/-- THE SECOND FORM's CARD OF 'deponentlaw.Shows'. -/
def showsUptoCard : Claim7 := { stood := { row := showsUptoRow, standIns := [], harness := (true, "4d3b105cc72a743a0a57bce8394646cef461471c2950b5f15302858ae5dad048"), looks := true }, kinds := [], alts := [], laidByText := true, laidKinds := [.sentinel], laidTests := true, laidLooks := .later }
def ShowsUptoCardSaid : Prop := Claim7.holds Tryz.pinned (.plain (OpenSpec.upto showsSpec)) showsUptoCard
end Rows
end Go.Proofs.YtjngfebacobegaaGreatDoor
