/-
  NARROWER THAN 'FOR EVERY INPUT', by the rows' own cells (each row's printed sentence says how): Checks: laid · Proven: laid · Euclid: laid · Copied: laid · Settles: laid.
  DERIVED. THE GIVEN ROWS OF THIS SEAT. 5 by the template 'for every input the law returns true; each argument reads behind the call as it read before'; 0 by the template 'total and deterministic' (their statements: YtdipojfngdceoaaDoorTotals.lean).
  GIVEN WITH THE SEED: the statements are not yours to turn. If you find one false, say at which input.
  Laid BY PROGRAM, IN A SANDBOX (cutbox-rows.mjs): the forced cells as the released guide's own fill.sh prints them over the translation abedefdc86cca207… (all of the seat's roots in one cut). By AI agents, Wed Nov 11 2026. No macro, syntax, notation, axiom, sorry.
-/
import Derived.Test.YtdipojfngdceoaaDoorChecked
import GoSem.Claim
import GoSem.ClaimJoined
import GoSem.ClaimMapViews
import Derived.JoinedTies
import Derived.KernelRfl
namespace Go.Proofs.YtdipojfngdceoaaDoor
/- THE CELL 'sum', in the pinned program and in every row, IS THE sha256 OF THE DUMP (.gsa) THAT YtdipojfngdceoaaDoorProg.lean LOADS. Nothing in Lean hashes anything: it is a label: what it is worth is what the hold of that sum in a sandbox is worth. -/
noncomputable def Tryd.pinned : Pinned := { name := "ytdipojfngdceoaadoor", sum := "abedefdc86cca207d800b8d4d69690cbd717fc8343f3e06d43e2e77212af722e", checked := Tryd.checked }
namespace Rows
def none {H : Type} : Left H := { results := [], args := [] }

/- WHAT THE LISTED PACKAGE-LEVEL VARIABLES READ AS WHEN THE CALL BEGINS. Each datum BY PROGRAM (the guide's laid-datum.mjs) off the statement by which the dump's own 'gosem.cut.vars' lays the variable. In a bare row this is a premise. The card (YtdipojfngdceoaaDoorCards.lean) ties it to the program's text. -/
def laid_deponent_parts_ErrWrong {H : Type} : DataW H := .iface "*errors.errorString" (.ptr (.agg [.lit (.string [116, 104, 101, 32, 119, 105, 116, 110, 101, 115, 115, 32, 105, 115, 32, 110, 111, 110, 101])]))

/-- 'deponentlaw.Checks': WHATEVER THE INPUT: true; the input reads as it did. -/
def checksSpec : ChangeSpec := { name := "checks", fn := fun _ => fun
  | [d1, d2, d3] => { results := [.lit (.bool true)], args := [d1, d2, d3] }
  | _ => none }
def checksRow : OpenClaim := { program := "ytdipojfngdceoaadoor", sum := "abedefdc86cca207d800b8d4d69690cbd717fc8343f3e06d43e2e77212af722e", func := "deponent/deponentlaw.Checks", spec := "checks", unfollowed := true, recurses := true, named := ["deponent/parts.ErrWrong"], apart := false, laid := [("deponent/parts.ErrWrong", laid_deponent_parts_ErrWrong)] }
def ChecksSaid : Prop := checksRow.holds Tryd.pinned (OpenSpec.ofChange checksSpec)

/-- ITS FALSE NEIGHBOUR: 'it returns false'. Refute it at one input. -/
def checksWrong : ChangeSpec := { name := "checks", fn := fun _ => fun
  | [d1, d2, d3] => { results := [.lit (.bool false)], args := [d1, d2, d3] }
  | _ => none }
def ChecksWrongFalsely : Prop := checksRow.holds Tryd.pinned (OpenSpec.ofChange checksWrong)

/-- 'deponentkeep.Proven': WHATEVER THE INPUT: true; the input reads as it did. -/
def provenSpec : ChangeSpec := { name := "proven", fn := fun _ => fun
  | [d1, d2, d3] => { results := [.lit (.bool true)], args := [d1, d2, d3] }
  | _ => none }
def provenRow : OpenClaim := { program := "ytdipojfngdceoaadoor", sum := "abedefdc86cca207d800b8d4d69690cbd717fc8343f3e06d43e2e77212af722e", func := "deponent/deponentkeep.Proven", spec := "proven", unfollowed := true, recurses := true, named := ["deponent/parts.ErrWrong"], apart := false, laid := [("deponent/parts.ErrWrong", laid_deponent_parts_ErrWrong)] }
def ProvenSaid : Prop := provenRow.holds Tryd.pinned (OpenSpec.ofChange provenSpec)

/-- ITS FALSE NEIGHBOUR: 'it returns false'. Refute it at one input. -/
def provenWrong : ChangeSpec := { name := "proven", fn := fun _ => fun
  | [d1, d2, d3] => { results := [.lit (.bool false)], args := [d1, d2, d3] }
  | _ => none }
def ProvenWrongFalsely : Prop := provenRow.holds Tryd.pinned (OpenSpec.ofChange provenWrong)

/-- 'deponentkeep.Euclid': WHATEVER THE INPUT: true; the input reads as it did. -/
def euclidSpec : ChangeSpec := { name := "euclid", fn := fun _ => fun
  | [d1, d2] => { results := [.lit (.bool true)], args := [d1, d2] }
  | _ => none }
def euclidRow : OpenClaim := { program := "ytdipojfngdceoaadoor", sum := "abedefdc86cca207d800b8d4d69690cbd717fc8343f3e06d43e2e77212af722e", func := "deponent/deponentkeep.Euclid", spec := "euclid", unfollowed := true, recurses := true, named := ["deponent/parts.ErrWrong"], apart := false, laid := [("deponent/parts.ErrWrong", laid_deponent_parts_ErrWrong)] }
def EuclidSaid : Prop := euclidRow.holds Tryd.pinned (OpenSpec.ofChange euclidSpec)

/-- ITS FALSE NEIGHBOUR: 'it returns false'. Refute it at one input. -/
def euclidWrong : ChangeSpec := { name := "euclid", fn := fun _ => fun
  | [d1, d2] => { results := [.lit (.bool false)], args := [d1, d2] }
  | _ => none }
def EuclidWrongFalsely : Prop := euclidRow.holds Tryd.pinned (OpenSpec.ofChange euclidWrong)

/-- 'deponentkeep.Copied': WHATEVER THE INPUT: true; the input reads as it did. -/
def copiedSpec : ChangeSpec := { name := "copied", fn := fun _ => fun
  | [d] => { results := [.lit (.bool true)], args := [d] }
  | _ => none }
def copiedRow : OpenClaim := { program := "ytdipojfngdceoaadoor", sum := "abedefdc86cca207d800b8d4d69690cbd717fc8343f3e06d43e2e77212af722e", func := "deponent/deponentkeep.Copied", spec := "copied", unfollowed := true, recurses := true, named := ["deponent/parts.ErrWrong"], apart := false, laid := [("deponent/parts.ErrWrong", laid_deponent_parts_ErrWrong)] }
def CopiedSaid : Prop := copiedRow.holds Tryd.pinned (OpenSpec.ofChange copiedSpec)

/-- ITS FALSE NEIGHBOUR: 'it returns false'. Refute it at one input. -/
def copiedWrong : ChangeSpec := { name := "copied", fn := fun _ => fun
  | [d] => { results := [.lit (.bool false)], args := [d] }
  | _ => none }
def CopiedWrongFalsely : Prop := copiedRow.holds Tryd.pinned (OpenSpec.ofChange copiedWrong)

/-- 'deponentlaw.Settles': WHATEVER THE INPUT: true; the input reads as it did. -/
def settlesSpec : ChangeSpec := { name := "settles", fn := fun _ => fun
  | [d1, d2, d3, d4, d5] => { results := [.lit (.bool true)], args := [d1, d2, d3, d4, d5] }
  | _ => none }
def settlesRow : OpenClaim := { program := "ytdipojfngdceoaadoor", sum := "abedefdc86cca207d800b8d4d69690cbd717fc8343f3e06d43e2e77212af722e", func := "deponent/deponentlaw.Settles", spec := "settles", unfollowed := true, recurses := true, named := ["deponent/parts.ErrWrong"], apart := false, laid := [("deponent/parts.ErrWrong", laid_deponent_parts_ErrWrong)] }
def SettlesSaid : Prop := settlesRow.holds Tryd.pinned (OpenSpec.ofChange settlesSpec)

/-- ITS FALSE NEIGHBOUR: 'it returns false'. Refute it at one input. -/
def settlesWrong : ChangeSpec := { name := "settles", fn := fun _ => fun
  | [d1, d2, d3, d4, d5] => { results := [.lit (.bool false)], args := [d1, d2, d3, d4, d5] }
  | _ => none }
def SettlesWrongFalsely : Prop := settlesRow.holds Tryd.pinned (OpenSpec.ofChange settlesWrong)

/- THE SECOND FORM. 'bulk': how many values and letters a reading holds, each counted each time it is reached (what is shared counts as often as it is met; a slice's spare places count too). A statement '..UptoSaid' is the law's where the arguments, and the package variables that the reading takes, are together of bulk at most 1048576: NARROWER than '..Said'. Prove '..Said' where nothing that the law and all that it calls make is longer than what came in: it says more and counts as full. Else prove '..UptoSaid'. A law counts once. -/
mutual
def uptoBulk {H : Type} : DataW H → Nat
  | .lit (.string bytes) => bytes.length + 1
  | .lit _ => 1
  | .nil => 1
  | .ptr d => uptoBulk d + 1
  | .slice elems spare => uptoBulkAll elems + uptoBulkAll spare + 1
  | .agg parts => uptoBulkAll parts + 1
  | .iface _ d => uptoBulk d + 1
  | .map entries => uptoBulkEntries entries + 1
  | .held _ => 1
def uptoBulkAll {H : Type} : List (DataW H) → Nat
  | [] => 0
  | d :: r => uptoBulk d + uptoBulkAll r
def uptoBulkEntries {H : Type} : List (Lit × DataW H) → Nat
  | [] => 0
  | x :: r => uptoBulkEntry x + uptoBulkEntries r
def uptoBulkEntry {H : Type} : Lit × DataW H → Nat
  | (.string bytes, d) => bytes.length + uptoBulk d + 1
  | (_, d) => uptoBulk d + 1
 end
def uptoSmall : (H : Type) → List (DataW H) → Bool := fun _ ds => decide (uptoBulkAll ds ≤ 1048576)
def OpenSpec.upto (s : _root_.Go.ChangeSpec) : _root_.Go.OpenSpec := { _root_.Go.OpenSpec.ofChange s with cond := some uptoSmall }

/-- 'deponentlaw.Checks', WHERE WHAT IT READS IS OF BULK AT MOST 1048576: true; the input reads as it did. -/
def checksUptoRow : OpenClaim := { program := "ytdipojfngdceoaadoor", sum := "abedefdc86cca207d800b8d4d69690cbd717fc8343f3e06d43e2e77212af722e", func := "deponent/deponentlaw.Checks", spec := "checks", unfollowed := true, recurses := true, named := ["deponent/parts.ErrWrong"], apart := false, laid := [("deponent/parts.ErrWrong", laid_deponent_parts_ErrWrong)], narrowed := true }
def ChecksUptoSaid : Prop := checksUptoRow.holds Tryd.pinned (OpenSpec.upto checksSpec)

/-- 'deponentkeep.Proven', WHERE WHAT IT READS IS OF BULK AT MOST 1048576: true; the input reads as it did. -/
def provenUptoRow : OpenClaim := { program := "ytdipojfngdceoaadoor", sum := "abedefdc86cca207d800b8d4d69690cbd717fc8343f3e06d43e2e77212af722e", func := "deponent/deponentkeep.Proven", spec := "proven", unfollowed := true, recurses := true, named := ["deponent/parts.ErrWrong"], apart := false, laid := [("deponent/parts.ErrWrong", laid_deponent_parts_ErrWrong)], narrowed := true }
def ProvenUptoSaid : Prop := provenUptoRow.holds Tryd.pinned (OpenSpec.upto provenSpec)

/-- 'deponentkeep.Euclid', WHERE WHAT IT READS IS OF BULK AT MOST 1048576: true; the input reads as it did. -/
def euclidUptoRow : OpenClaim := { program := "ytdipojfngdceoaadoor", sum := "abedefdc86cca207d800b8d4d69690cbd717fc8343f3e06d43e2e77212af722e", func := "deponent/deponentkeep.Euclid", spec := "euclid", unfollowed := true, recurses := true, named := ["deponent/parts.ErrWrong"], apart := false, laid := [("deponent/parts.ErrWrong", laid_deponent_parts_ErrWrong)], narrowed := true }
def EuclidUptoSaid : Prop := euclidUptoRow.holds Tryd.pinned (OpenSpec.upto euclidSpec)

/-- 'deponentkeep.Copied', WHERE WHAT IT READS IS OF BULK AT MOST 1048576: true; the input reads as it did. -/
def copiedUptoRow : OpenClaim := { program := "ytdipojfngdceoaadoor", sum := "abedefdc86cca207d800b8d4d69690cbd717fc8343f3e06d43e2e77212af722e", func := "deponent/deponentkeep.Copied", spec := "copied", unfollowed := true, recurses := true, named := ["deponent/parts.ErrWrong"], apart := false, laid := [("deponent/parts.ErrWrong", laid_deponent_parts_ErrWrong)], narrowed := true }
def CopiedUptoSaid : Prop := copiedUptoRow.holds Tryd.pinned (OpenSpec.upto copiedSpec)

/-- 'deponentlaw.Settles', WHERE WHAT IT READS IS OF BULK AT MOST 1048576: true; the input reads as it did. -/
def settlesUptoRow : OpenClaim := { program := "ytdipojfngdceoaadoor", sum := "abedefdc86cca207d800b8d4d69690cbd717fc8343f3e06d43e2e77212af722e", func := "deponent/deponentlaw.Settles", spec := "settles", unfollowed := true, recurses := true, named := ["deponent/parts.ErrWrong"], apart := false, laid := [("deponent/parts.ErrWrong", laid_deponent_parts_ErrWrong)], narrowed := true }
def SettlesUptoSaid : Prop := settlesUptoRow.holds Tryd.pinned (OpenSpec.upto settlesSpec)

end Rows
end Go.Proofs.YtdipojfngdceoaaDoor
