/-
  DERIVED. GIVEN WITH THE SEED: THE CARDS: each row of YtdipojfngdceoaaGreatDoorRows.lean that lists a variable, with what it lists TIED to the program's text (the seventh form; the later family's looks); each row that meets fmt, with fmt's text TOLD by the authors' own Lean function (tested against real Go, not proved from fmt's source: count such statements apart). THE CARD IS WHAT COUNTS. Prove the row's statement (the work); the ties are given (YtdipojfngdceoaaGreatDoorTie.lean); close each card by the builder's one call (the guide's Derived/Test/ToyasCard.lean, 'card_holds'). Laid BY PROGRAM, IN A SANDBOX (cutbox-door.mjs). By AI agents, Wed Nov 11 2026. No macro, syntax, notation, axiom, sorry.
-/
import Derived.Test.YtdipojfngdceoaaGreatDoorRows
import GoSem.ClaimSeven
namespace Go.Proofs.YtdipojfngdceoaaGreatDoor
namespace Rows

/-- THE TIED CARD OF 'deponentlaw.Single'. -/
def singleCard : Claim7 := { stood := { row := singleRow, standIns := [], harness := (true, "c06232592f668a2f45de7ab55aea86d523fb2ed12777926052ed89f21f913007"), looks := true }, kinds := [], alts := [], laidByText := true, laidKinds := [.sentinel], laidTests := true, laidLooks := .later }
def SingleCardSaid : Prop := Claim7.holds Tryz.pinned (.plain (OpenSpec.ofChange singleSpec)) singleCard

/-- THE TIED CARD OF 'deponentlaw.Runs'. -/
def runsCard : Claim7 := { stood := { row := runsRow, standIns := [], harness := (true, "c06232592f668a2f45de7ab55aea86d523fb2ed12777926052ed89f21f913007"), looks := true }, kinds := [], alts := [], laidByText := true, laidKinds := [.sentinel], laidTests := true, laidLooks := .later }
def RunsCardSaid : Prop := Claim7.holds Tryz.pinned (.plain (OpenSpec.ofChange runsSpec)) runsCard

/-- THE TIED CARD OF 'deponentlaw.Shows'. -/
def showsCard : Claim7 := { stood := { row := showsRow, standIns := [], harness := (true, "c06232592f668a2f45de7ab55aea86d523fb2ed12777926052ed89f21f913007"), looks := true }, kinds := [], alts := [], laidByText := true, laidKinds := [.sentinel], laidTests := true, laidLooks := .later }
def ShowsCardSaid : Prop := Claim7.holds Tryz.pinned (.plain (OpenSpec.ofChange showsSpec)) showsCard

/-- THE TIED CARD OF 'deponentkeep.Sound'. -/
def soundCard : Claim7 := { stood := { row := soundRow, standIns := [], harness := (true, "c06232592f668a2f45de7ab55aea86d523fb2ed12777926052ed89f21f913007"), looks := true }, kinds := [], alts := [], laidByText := true, laidKinds := [.sentinel], laidTests := true, laidLooks := .later }
def SoundCardSaid : Prop := Claim7.holds Tryz.pinned (.plain (OpenSpec.ofChange soundSpec)) soundCard

/-- THE TIED CARD OF 'deponentkeep.Forged'. -/
def forgedCard : Claim7 := { stood := { row := forgedRow, standIns := [], harness := (true, "c06232592f668a2f45de7ab55aea86d523fb2ed12777926052ed89f21f913007"), looks := true }, kinds := [], alts := [], laidByText := true, laidKinds := [.sentinel], laidTests := true, laidLooks := .later }
def ForgedCardSaid : Prop := Claim7.holds Tryz.pinned (.plain (OpenSpec.ofChange forgedSpec)) forgedCard

/-- THE TIED CARD OF 'deponentkeep.Honest'. -/
def honestCard : Claim7 := { stood := { row := honestRow, standIns := [], harness := (true, "c06232592f668a2f45de7ab55aea86d523fb2ed12777926052ed89f21f913007"), looks := true }, kinds := [], alts := [], laidByText := true, laidKinds := [.sentinel], laidTests := true, laidLooks := .later }
def HonestCardSaid : Prop := Claim7.holds Tryz.pinned (.plain (OpenSpec.ofChange honestSpec)) honestCard

/-- THE SECOND FORM's CARD OF 'deponentlaw.Single'. -/
def singleUptoCard : Claim7 := { stood := { row := singleUptoRow, standIns := [], harness := (true, "c06232592f668a2f45de7ab55aea86d523fb2ed12777926052ed89f21f913007"), looks := true }, kinds := [], alts := [], laidByText := true, laidKinds := [.sentinel], laidTests := true, laidLooks := .later }
def SingleUptoCardSaid : Prop := Claim7.holds Tryz.pinned (.plain (OpenSpec.upto singleSpec)) singleUptoCard

/-- THE SECOND FORM's CARD OF 'deponentlaw.Runs'. -/
def runsUptoCard : Claim7 := { stood := { row := runsUptoRow, standIns := [], harness := (true, "c06232592f668a2f45de7ab55aea86d523fb2ed12777926052ed89f21f913007"), looks := true }, kinds := [], alts := [], laidByText := true, laidKinds := [.sentinel], laidTests := true, laidLooks := .later }
def RunsUptoCardSaid : Prop := Claim7.holds Tryz.pinned (.plain (OpenSpec.upto runsSpec)) runsUptoCard

/-- THE SECOND FORM's CARD OF 'deponentlaw.Shows'. -/
def showsUptoCard : Claim7 := { stood := { row := showsUptoRow, standIns := [], harness := (true, "c06232592f668a2f45de7ab55aea86d523fb2ed12777926052ed89f21f913007"), looks := true }, kinds := [], alts := [], laidByText := true, laidKinds := [.sentinel], laidTests := true, laidLooks := .later }
def ShowsUptoCardSaid : Prop := Claim7.holds Tryz.pinned (.plain (OpenSpec.upto showsSpec)) showsUptoCard

/-- THE SECOND FORM's CARD OF 'deponentkeep.Sound'. -/
def soundUptoCard : Claim7 := { stood := { row := soundUptoRow, standIns := [], harness := (true, "c06232592f668a2f45de7ab55aea86d523fb2ed12777926052ed89f21f913007"), looks := true }, kinds := [], alts := [], laidByText := true, laidKinds := [.sentinel], laidTests := true, laidLooks := .later }
def SoundUptoCardSaid : Prop := Claim7.holds Tryz.pinned (.plain (OpenSpec.upto soundSpec)) soundUptoCard

/-- THE SECOND FORM's CARD OF 'deponentkeep.Forged'. -/
def forgedUptoCard : Claim7 := { stood := { row := forgedUptoRow, standIns := [], harness := (true, "c06232592f668a2f45de7ab55aea86d523fb2ed12777926052ed89f21f913007"), looks := true }, kinds := [], alts := [], laidByText := true, laidKinds := [.sentinel], laidTests := true, laidLooks := .later }
def ForgedUptoCardSaid : Prop := Claim7.holds Tryz.pinned (.plain (OpenSpec.upto forgedSpec)) forgedUptoCard

/-- THE SECOND FORM's CARD OF 'deponentkeep.Honest'. -/
def honestUptoCard : Claim7 := { stood := { row := honestUptoRow, standIns := [], harness := (true, "c06232592f668a2f45de7ab55aea86d523fb2ed12777926052ed89f21f913007"), looks := true }, kinds := [], alts := [], laidByText := true, laidKinds := [.sentinel], laidTests := true, laidLooks := .later }
def HonestUptoCardSaid : Prop := Claim7.holds Tryz.pinned (.plain (OpenSpec.upto honestSpec)) honestUptoCard
end Rows
end Go.Proofs.YtdipojfngdceoaaGreatDoor
