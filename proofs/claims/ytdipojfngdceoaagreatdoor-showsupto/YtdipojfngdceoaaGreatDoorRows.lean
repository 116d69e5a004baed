/-
  NARROWER THAN 'FOR EVERY INPUT', by the rows' own cells (each row's printed sentence says how): Single: laid · Runs: laid · Shows: laid · Sound: laid · Forged: laid · Honest: laid.
  DERIVED. THE GIVEN ROWS OF THIS SEAT. 6 by the template 'for every input the law returns true; each argument reads behind the call as it read before'; 0 by the template 'total and deterministic' (their statements: YtdipojfngdceoaaGreatDoorTotals.lean).
  GIVEN WITH THE SEED: the statements are not yours to turn. If you find one false, say at which input.
  Laid BY PROGRAM, IN A SANDBOX (cutbox-rows.mjs): the forced cells as the released guide's own fill.sh prints them over the translation 6c391f7909b9a3c4… (all of the seat's roots in one cut). By AI agents, Wed Nov 11 2026. No macro, syntax, notation, axiom, sorry.
-/
import Derived.Test.YtdipojfngdceoaaGreatDoorChecked
import GoSem.Claim
import GoSem.ClaimJoined
import GoSem.ClaimMapViews
import Derived.JoinedTies
import Derived.KernelRfl
namespace Go.Proofs.YtdipojfngdceoaaGreatDoor
/- THE CELL 'sum', in the pinned program and in every row, IS THE sha256 OF THE DUMP (.gsa) THAT YtdipojfngdceoaaGreatDoorProg.lean LOADS. Nothing in Lean hashes anything: it is a label: what it is worth is what the hold of that sum in a sandbox is worth. -/
noncomputable def Tryz.pinned : Pinned := { name := "ytdipojfngdceoaagreatdoor", sum := "6c391f7909b9a3c437b7a8886e340b45450a8f4036b9e646d057420de7058652", checked := Tryz.checked }
namespace Rows
def none {H : Type} : Left H := { results := [], args := [] }

/- WHAT THE LISTED PACKAGE-LEVEL VARIABLES READ AS WHEN THE CALL BEGINS. Each datum BY PROGRAM (the guide's laid-datum.mjs) off the statement by which the dump's own 'gosem.cut.vars' lays the variable. In a bare row this is a premise. The card (YtdipojfngdceoaaGreatDoorCards.lean) ties it to the program's text. -/
def laid_deponent_parts_ErrWrong {H : Type} : DataW H := .iface "*errors.errorString" (.ptr (.agg [.lit (.string [116, 104, 101, 32, 119, 105, 116, 110, 101, 115, 115, 32, 105, 115, 32, 110, 111, 110, 101])]))

/-- 'deponentlaw.Single': WHATEVER THE INPUT: true; the input reads as it did. -/
def singleSpec : ChangeSpec := { name := "single", fn := fun _ => fun
  | [d1, d2] => { results := [.lit (.bool true)], args := [d1, d2] }
  | _ => none }
def singleRow : OpenClaim := { program := "ytdipojfngdceoaagreatdoor", sum := "6c391f7909b9a3c437b7a8886e340b45450a8f4036b9e646d057420de7058652", func := "deponent/deponentlaw.Single", spec := "single", unfollowed := true, recurses := true, named := ["deponent/parts.ErrWrong"], apart := false, laid := [("deponent/parts.ErrWrong", laid_deponent_parts_ErrWrong)] }
def SingleSaid : Prop := singleRow.holds Tryz.pinned (OpenSpec.ofChange singleSpec)

/-- ITS FALSE NEIGHBOUR: 'it returns false'. Refute it at one input. -/
def singleWrong : ChangeSpec := { name := "single", fn := fun _ => fun
  | [d1, d2] => { results := [.lit (.bool false)], args := [d1, d2] }
  | _ => none }
def SingleWrongFalsely : Prop := singleRow.holds Tryz.pinned (OpenSpec.ofChange singleWrong)

/-- 'deponentlaw.Runs': WHATEVER THE INPUT: true; the input reads as it did. -/
def runsSpec : ChangeSpec := { name := "runs", fn := fun _ => fun
  | [d1, d2] => { results := [.lit (.bool true)], args := [d1, d2] }
  | _ => none }
def runsRow : OpenClaim := { program := "ytdipojfngdceoaagreatdoor", sum := "6c391f7909b9a3c437b7a8886e340b45450a8f4036b9e646d057420de7058652", func := "deponent/deponentlaw.Runs", spec := "runs", unfollowed := true, recurses := true, named := ["deponent/parts.ErrWrong"], apart := false, laid := [("deponent/parts.ErrWrong", laid_deponent_parts_ErrWrong)] }
def RunsSaid : Prop := runsRow.holds Tryz.pinned (OpenSpec.ofChange runsSpec)

/-- ITS FALSE NEIGHBOUR: 'it returns false'. Refute it at one input. -/
def runsWrong : ChangeSpec := { name := "runs", fn := fun _ => fun
  | [d1, d2] => { results := [.lit (.bool false)], args := [d1, d2] }
  | _ => none }
def RunsWrongFalsely : Prop := runsRow.holds Tryz.pinned (OpenSpec.ofChange runsWrong)

/-- 'deponentlaw.Shows': WHATEVER THE INPUT: true; the input reads as it did. -/
def showsSpec : ChangeSpec := { name := "shows", fn := fun _ => fun
  | [d1, d2] => { results := [.lit (.bool true)], args := [d1, d2] }
  | _ => none }
def showsRow : OpenClaim := { program := "ytdipojfngdceoaagreatdoor", sum := "6c391f7909b9a3c437b7a8886e340b45450a8f4036b9e646d057420de7058652", func := "deponent/deponentlaw.Shows", spec := "shows", unfollowed := true, recurses := true, named := ["deponent/parts.ErrWrong"], apart := false, laid := [("deponent/parts.ErrWrong", laid_deponent_parts_ErrWrong)] }
def ShowsSaid : Prop := showsRow.holds Tryz.pinned (OpenSpec.ofChange showsSpec)

/-- ITS FALSE NEIGHBOUR: 'it returns false'. Refute it at one input. -/
def showsWrong : ChangeSpec := { name := "shows", fn := fun _ => fun
  | [d1, d2] => { results := [.lit (.bool false)], args := [d1, d2] }
  | _ => none }
def ShowsWrongFalsely : Prop := showsRow.holds Tryz.pinned (OpenSpec.ofChange showsWrong)

/-- 'deponentkeep.Sound': WHATEVER THE INPUT: true; the input reads as it did. -/
def soundSpec : ChangeSpec := { name := "sound", fn := fun _ => fun
  | [d1, d2, d3, d4] => { results := [.lit (.bool true)], args := [d1, d2, d3, d4] }
  | _ => none }
def soundRow : OpenClaim := { program := "ytdipojfngdceoaagreatdoor", sum := "6c391f7909b9a3c437b7a8886e340b45450a8f4036b9e646d057420de7058652", func := "deponent/deponentkeep.Sound", spec := "sound", unfollowed := true, recurses := true, named := ["deponent/parts.ErrWrong"], apart := false, laid := [("deponent/parts.ErrWrong", laid_deponent_parts_ErrWrong)] }
def SoundSaid : Prop := soundRow.holds Tryz.pinned (OpenSpec.ofChange soundSpec)

/-- ITS FALSE NEIGHBOUR: 'it returns false'. Refute it at one input. -/
def soundWrong : ChangeSpec := { name := "sound", fn := fun _ => fun
  | [d1, d2, d3, d4] => { results := [.lit (.bool false)], args := [d1, d2, d3, d4] }
  | _ => none }
def SoundWrongFalsely : Prop := soundRow.holds Tryz.pinned (OpenSpec.ofChange soundWrong)

/-- 'deponentkeep.Forged': WHATEVER THE INPUT: true; the input reads as it did. -/
def forgedSpec : ChangeSpec := { name := "forged", fn := fun _ => fun
  | [d1, d2, d3, d4, d5] => { results := [.lit (.bool true)], args := [d1, d2, d3, d4, d5] }
  | _ => none }
def forgedRow : OpenClaim := { program := "ytdipojfngdceoaagreatdoor", sum := "6c391f7909b9a3c437b7a8886e340b45450a8f4036b9e646d057420de7058652", func := "deponent/deponentkeep.Forged", spec := "forged", unfollowed := true, recurses := true, named := ["deponent/parts.ErrWrong"], apart := false, laid := [("deponent/parts.ErrWrong", laid_deponent_parts_ErrWrong)] }
def ForgedSaid : Prop := forgedRow.holds Tryz.pinned (OpenSpec.ofChange forgedSpec)

/-- ITS FALSE NEIGHBOUR: 'it returns false'. Refute it at one input. -/
def forgedWrong : ChangeSpec := { name := "forged", fn := fun _ => fun
  | [d1, d2, d3, d4, d5] => { results := [.lit (.bool false)], args := [d1, d2, d3, d4, d5] }
  | _ => none }
def ForgedWrongFalsely : Prop := forgedRow.holds Tryz.pinned (OpenSpec.ofChange forgedWrong)

/-- 'deponentkeep.Honest': WHATEVER THE INPUT: true; the input reads as it did. -/
def honestSpec : ChangeSpec := { name := "honest", fn := fun _ => fun
  | [d1, d2, d3, d4, d5] => { results := [.lit (.bool true)], args := [d1, d2, d3, d4, d5] }
  | _ => none }
def honestRow : OpenClaim := { program := "ytdipojfngdceoaagreatdoor", sum := "6c391f7909b9a3c437b7a8886e340b45450a8f4036b9e646d057420de7058652", func := "deponent/deponentkeep.Honest", spec := "honest", unfollowed := true, recurses := true, named := ["deponent/parts.ErrWrong"], apart := false, laid := [("deponent/parts.ErrWrong", laid_deponent_parts_ErrWrong)] }
def HonestSaid : Prop := honestRow.holds Tryz.pinned (OpenSpec.ofChange honestSpec)

/-- ITS FALSE NEIGHBOUR: 'it returns false'. Refute it at one input. -/
def honestWrong : ChangeSpec := { name := "honest", fn := fun _ => fun
  | [d1, d2, d3, d4, d5] => { results := [.lit (.bool false)], args := [d1, d2, d3, d4, d5] }
  | _ => none }
def HonestWrongFalsely : Prop := honestRow.holds Tryz.pinned (OpenSpec.ofChange honestWrong)

/- THE SECOND FORM. 'bulk': how many values and letters a reading holds, each counted each time it is reached (what is shared counts as often as it is met; a slice's spare places count too). A statement '..UptoSaid' is the law's where the arguments, and the package variables that the reading takes, are together of bulk at most 1048576: NARROWER than '..Said'. Prove '..Said' where nothing that the law and all that it calls make is longer than what came in: it says more and counts as full. Else prove '..UptoSaid'. A law counts once. -/
mutual
def uptoBulk {H : Type} : DataW H → Nat
  | .lit (.string bytes) => bytes.length + 1
  | .lit _ => 1
  | .nil => 1
  | .ptr d => uptoBulk d + 1
  | .slice elems spare => uptoBulkAll elems + uptoBulkAll spare + 1
  | .agg parts => uptoBulkAll parts + 1
  | .iface _ d => uptoBulk d + 1
  | .map entries => uptoBulkEntries entries + 1
  | .held _ => 1
def uptoBulkAll {H : Type} : List (DataW H) → Nat
  | [] => 0
  | d :: r => uptoBulk d + uptoBulkAll r
def uptoBulkEntries {H : Type} : List (Lit × DataW H) → Nat
  | [] => 0
  | x :: r => uptoBulkEntry x + uptoBulkEntries r
def uptoBulkEntry {H : Type} : Lit × DataW H → Nat
  | (.string bytes, d) => bytes.length + uptoBulk d + 1
  | (_, d) => uptoBulk d + 1
 end
def uptoSmall : (H : Type) → List (DataW H) → Bool := fun _ ds => decide (uptoBulkAll ds ≤ 1048576)
def OpenSpec.upto (s : _root_.Go.ChangeSpec) : _root_.Go.OpenSpec := { _root_.Go.OpenSpec.ofChange s with cond := some uptoSmall }

/-- 'deponentlaw.Single', WHERE WHAT IT READS IS OF BULK AT MOST 1048576: true; the input reads as it did. -/
def singleUptoRow : OpenClaim := { program := "ytdipojfngdceoaagreatdoor", sum := "6c391f7909b9a3c437b7a8886e340b45450a8f4036b9e646d057420de7058652", func := "deponent/deponentlaw.Single", spec := "single", unfollowed := true, recurses := true, named := ["deponent/parts.ErrWrong"], apart := false, laid := [("deponent/parts.ErrWrong", laid_deponent_parts_ErrWrong)], narrowed := true }
def SingleUptoSaid : Prop := singleUptoRow.holds Tryz.pinned (OpenSpec.upto singleSpec)

/-- 'deponentlaw.Runs', WHERE WHAT IT READS IS OF BULK AT MOST 1048576: true; the input reads as it did. -/
def runsUptoRow : OpenClaim := { program := "ytdipojfngdceoaagreatdoor", sum := "6c391f7909b9a3c437b7a8886e340b45450a8f4036b9e646d057420de7058652", func := "deponent/deponentlaw.Runs", spec := "runs", unfollowed := true, recurses := true, named := ["deponent/parts.ErrWrong"], apart := false, laid := [("deponent/parts.ErrWrong", laid_deponent_parts_ErrWrong)], narrowed := true }
def RunsUptoSaid : Prop := runsUptoRow.holds Tryz.pinned (OpenSpec.upto runsSpec)

/-- 'deponentlaw.Shows', WHERE WHAT IT READS IS OF BULK AT MOST 1048576: true; the input reads as it did. -/
def showsUptoRow : OpenClaim := { program := "ytdipojfngdceoaagreatdoor", sum := "6c391f7909b9a3c437b7a8886e340b45450a8f4036b9e646d057420de7058652", func := "deponent/deponentlaw.Shows", spec := "shows", unfollowed := true, recurses := true, named := ["deponent/parts.ErrWrong"], apart := false, laid := [("deponent/parts.ErrWrong", laid_deponent_parts_ErrWrong)], narrowed := true }
def ShowsUptoSaid : Prop := showsUptoRow.holds Tryz.pinned (OpenSpec.upto showsSpec)

/-- 'deponentkeep.Sound', WHERE WHAT IT READS IS OF BULK AT MOST 1048576: true; the input reads as it did. -/
def soundUptoRow : OpenClaim := { program := "ytdipojfngdceoaagreatdoor", sum := "6c391f7909b9a3c437b7a8886e340b45450a8f4036b9e646d057420de7058652", func := "deponent/deponentkeep.Sound", spec := "sound", unfollowed := true, recurses := true, named := ["deponent/parts.ErrWrong"], apart := false, laid := [("deponent/parts.ErrWrong", laid_deponent_parts_ErrWrong)], narrowed := true }
def SoundUptoSaid : Prop := soundUptoRow.holds Tryz.pinned (OpenSpec.upto soundSpec)

/-- 'deponentkeep.Forged', WHERE WHAT IT READS IS OF BULK AT MOST 1048576: true; the input reads as it did. -/
def forgedUptoRow : OpenClaim := { program := "ytdipojfngdceoaagreatdoor", sum := "6c391f7909b9a3c437b7a8886e340b45450a8f4036b9e646d057420de7058652", func := "deponent/deponentkeep.Forged", spec := "forged", unfollowed := true, recurses := true, named := ["deponent/parts.ErrWrong"], apart := false, laid := [("deponent/parts.ErrWrong", laid_deponent_parts_ErrWrong)], narrowed := true }
def ForgedUptoSaid : Prop := forgedUptoRow.holds Tryz.pinned (OpenSpec.upto forgedSpec)

/-- 'deponentkeep.Honest', WHERE WHAT IT READS IS OF BULK AT MOST 1048576: true; the input reads as it did. -/
def honestUptoRow : OpenClaim := { program := "ytdipojfngdceoaagreatdoor", sum := "6c391f7909b9a3c437b7a8886e340b45450a8f4036b9e646d057420de7058652", func := "deponent/deponentkeep.Honest", spec := "honest", unfollowed := true, recurses := true, named := ["deponent/parts.ErrWrong"], apart := false, laid := [("deponent/parts.ErrWrong", laid_deponent_parts_ErrWrong)], narrowed := true }
def HonestUptoSaid : Prop := honestUptoRow.holds Tryz.pinned (OpenSpec.upto honestSpec)

end Rows
end Go.Proofs.YtdipojfngdceoaaGreatDoor
