/-
  DERIVED. GIVEN WITH THE SEED: THE CARDS: each row of YtdipojfngdceoabGreatDoorRows.lean that lists a variable, with what it lists TIED to the program's text (the seventh form; the later family's looks); each row that meets fmt, with fmt's text TOLD by the authors' own Lean function (tested against real Go, not proved from fmt's source: count such statements apart). THE CARD IS WHAT COUNTS. Prove the row's statement (the work); the ties are given (YtdipojfngdceoabGreatDoorTie.lean); close each card by the builder's one call (the guide's Derived/Test/ToyasCard.lean, 'card_holds'). Laid BY PROGRAM, IN A SANDBOX (cutbox-door.mjs). By AI agents, Wed Nov 11 2026. No macro, syntax, notation, axiom, sorry.
-/
import Derived.Test.YtdipojfngdceoabGreatDoorRows
import GoSem.ClaimSeven
namespace Go.Proofs.YtdipojfngdceoabGreatDoor
namespace Rows

/-- THE TIED CARD OF 'deponentkeep.Doubted'. -/
def doubtedCard : Claim7 := { stood := { row := doubtedRow, standIns := [], harness := (true, "c7b49cbb6760a26c20922c4526787cbc1d055097102711076fba6f8fc1c5cd00"), looks := true }, kinds := [], alts := [], laidByText := true, laidKinds := [.sentinel], laidTests := true, laidLooks := .later }
def DoubtedCardSaid : Prop := Claim7.holds Tryz.pinned (.plain (OpenSpec.ofChange doubtedSpec)) doubtedCard

/-- THE TIED CARD OF 'deponentlaw.All'. -/
def allCard : Claim7 := { stood := { row := allRow, standIns := [], harness := (true, "c7b49cbb6760a26c20922c4526787cbc1d055097102711076fba6f8fc1c5cd00"), looks := true }, kinds := [], alts := [], laidByText := true, laidKinds := [.sentinel], laidTests := true, laidLooks := .later }
def AllCardSaid : Prop := Claim7.holds Tryz.pinned (.plain (OpenSpec.ofChange allSpec)) allCard

/-- THE SECOND FORM's CARD OF 'deponentkeep.Doubted'. -/
def doubtedUptoCard : Claim7 := { stood := { row := doubtedUptoRow, standIns := [], harness := (true, "c7b49cbb6760a26c20922c4526787cbc1d055097102711076fba6f8fc1c5cd00"), looks := true }, kinds := [], alts := [], laidByText := true, laidKinds := [.sentinel], laidTests := true, laidLooks := .later }
def DoubtedUptoCardSaid : Prop := Claim7.holds Tryz.pinned (.plain (OpenSpec.upto doubtedSpec)) doubtedUptoCard

/-- THE SECOND FORM's CARD OF 'deponentlaw.All'. -/
def allUptoCard : Claim7 := { stood := { row := allUptoRow, standIns := [], harness := (true, "c7b49cbb6760a26c20922c4526787cbc1d055097102711076fba6f8fc1c5cd00"), looks := true }, kinds := [], alts := [], laidByText := true, laidKinds := [.sentinel], laidTests := true, laidLooks := .later }
def AllUptoCardSaid : Prop := Claim7.holds Tryz.pinned (.plain (OpenSpec.upto allSpec)) allUptoCard
end Rows
end Go.Proofs.YtdipojfngdceoabGreatDoor
