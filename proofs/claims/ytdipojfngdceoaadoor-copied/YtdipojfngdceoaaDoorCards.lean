/-
  DERIVED. GIVEN WITH THE SEED: THE CARDS: each row of YtdipojfngdceoaaDoorRows.lean that lists a variable, with what it lists TIED to the program's text (the seventh form; the later family's looks); each row that meets fmt, with fmt's text TOLD by the authors' own Lean function (tested against real Go, not proved from fmt's source: count such statements apart). THE CARD IS WHAT COUNTS. Prove the row's statement (the work); the ties are given (YtdipojfngdceoaaDoorTie.lean); close each card by the builder's one call (the guide's Derived/Test/ToyasCard.lean, 'card_holds'). Laid BY PROGRAM, IN A SANDBOX (cutbox-door.mjs). By AI agents, Wed Nov 11 2026. No macro, syntax, notation, axiom, sorry.
-/
import Derived.Test.YtdipojfngdceoaaDoorRows
import GoSem.ClaimSeven
namespace Go.Proofs.YtdipojfngdceoaaDoor
namespace Rows

/-- THE TIED CARD OF 'deponentlaw.Checks'. -/
def checksCard : Claim7 := { stood := { row := checksRow, standIns := [], harness := (true, "a185dcba021fcca06092809391a535c87513db93f4ec3735e111e9a18892b62d"), looks := true }, kinds := [], alts := [], laidByText := true, laidKinds := [.sentinel], laidTests := true, laidLooks := .later }
def ChecksCardSaid : Prop := Claim7.holds Tryd.pinned (.plain (OpenSpec.ofChange checksSpec)) checksCard

/-- THE TIED CARD OF 'deponentkeep.Proven'. -/
def provenCard : Claim7 := { stood := { row := provenRow, standIns := [], harness := (true, "a185dcba021fcca06092809391a535c87513db93f4ec3735e111e9a18892b62d"), looks := true }, kinds := [], alts := [], laidByText := true, laidKinds := [.sentinel], laidTests := true, laidLooks := .later }
def ProvenCardSaid : Prop := Claim7.holds Tryd.pinned (.plain (OpenSpec.ofChange provenSpec)) provenCard

/-- THE TIED CARD OF 'deponentkeep.Euclid'. -/
def euclidCard : Claim7 := { stood := { row := euclidRow, standIns := [], harness := (true, "a185dcba021fcca06092809391a535c87513db93f4ec3735e111e9a18892b62d"), looks := true }, kinds := [], alts := [], laidByText := true, laidKinds := [.sentinel], laidTests := true, laidLooks := .later }
def EuclidCardSaid : Prop := Claim7.holds Tryd.pinned (.plain (OpenSpec.ofChange euclidSpec)) euclidCard

/-- THE TIED CARD OF 'deponentkeep.Copied'. -/
def copiedCard : Claim7 := { stood := { row := copiedRow, standIns := [], harness := (true, "a185dcba021fcca06092809391a535c87513db93f4ec3735e111e9a18892b62d"), looks := true }, kinds := [], alts := [], laidByText := true, laidKinds := [.sentinel], laidTests := true, laidLooks := .later }
def CopiedCardSaid : Prop := Claim7.holds Tryd.pinned (.plain (OpenSpec.ofChange copiedSpec)) copiedCard

/-- THE TIED CARD OF 'deponentlaw.Settles'. -/
def settlesCard : Claim7 := { stood := { row := settlesRow, standIns := [], harness := (true, "a185dcba021fcca06092809391a535c87513db93f4ec3735e111e9a18892b62d"), looks := true }, kinds := [], alts := [], laidByText := true, laidKinds := [.sentinel], laidTests := true, laidLooks := .later }
def SettlesCardSaid : Prop := Claim7.holds Tryd.pinned (.plain (OpenSpec.ofChange settlesSpec)) settlesCard

/-- THE SECOND FORM's CARD OF 'deponentlaw.Checks'. -/
def checksUptoCard : Claim7 := { stood := { row := checksUptoRow, standIns := [], harness := (true, "a185dcba021fcca06092809391a535c87513db93f4ec3735e111e9a18892b62d"), looks := true }, kinds := [], alts := [], laidByText := true, laidKinds := [.sentinel], laidTests := true, laidLooks := .later }
def ChecksUptoCardSaid : Prop := Claim7.holds Tryd.pinned (.plain (OpenSpec.upto checksSpec)) checksUptoCard

/-- THE SECOND FORM's CARD OF 'deponentkeep.Proven'. -/
def provenUptoCard : Claim7 := { stood := { row := provenUptoRow, standIns := [], harness := (true, "a185dcba021fcca06092809391a535c87513db93f4ec3735e111e9a18892b62d"), looks := true }, kinds := [], alts := [], laidByText := true, laidKinds := [.sentinel], laidTests := true, laidLooks := .later }
def ProvenUptoCardSaid : Prop := Claim7.holds Tryd.pinned (.plain (OpenSpec.upto provenSpec)) provenUptoCard

/-- THE SECOND FORM's CARD OF 'deponentkeep.Euclid'. -/
def euclidUptoCard : Claim7 := { stood := { row := euclidUptoRow, standIns := [], harness := (true, "a185dcba021fcca06092809391a535c87513db93f4ec3735e111e9a18892b62d"), looks := true }, kinds := [], alts := [], laidByText := true, laidKinds := [.sentinel], laidTests := true, laidLooks := .later }
def EuclidUptoCardSaid : Prop := Claim7.holds Tryd.pinned (.plain (OpenSpec.upto euclidSpec)) euclidUptoCard

/-- THE SECOND FORM's CARD OF 'deponentkeep.Copied'. -/
def copiedUptoCard : Claim7 := { stood := { row := copiedUptoRow, standIns := [], harness := (true, "a185dcba021fcca06092809391a535c87513db93f4ec3735e111e9a18892b62d"), looks := true }, kinds := [], alts := [], laidByText := true, laidKinds := [.sentinel], laidTests := true, laidLooks := .later }
def CopiedUptoCardSaid : Prop := Claim7.holds Tryd.pinned (.plain (OpenSpec.upto copiedSpec)) copiedUptoCard

/-- THE SECOND FORM's CARD OF 'deponentlaw.Settles'. -/
def settlesUptoCard : Claim7 := { stood := { row := settlesUptoRow, standIns := [], harness := (true, "a185dcba021fcca06092809391a535c87513db93f4ec3735e111e9a18892b62d"), looks := true }, kinds := [], alts := [], laidByText := true, laidKinds := [.sentinel], laidTests := true, laidLooks := .later }
def SettlesUptoCardSaid : Prop := Claim7.holds Tryd.pinned (.plain (OpenSpec.upto settlesSpec)) settlesUptoCard
end Rows
end Go.Proofs.YtdipojfngdceoaaDoor
