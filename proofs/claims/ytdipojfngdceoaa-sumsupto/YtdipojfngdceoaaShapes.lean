/- What a slice of bytes, and a slice of such slices, hold: the shapes that our contracts speak of; no program is named here. -/
import Derived.WalkKit
namespace Go.Proofs.Ytdipojfngdceoaa
namespace Dp

/-- The cell that holds a byte. -/
def byteVal (b : UInt8) : Value := .int .u8 (b.toNat : Int)

/-- The slice value v holds just these bytes. -/
def Bytes (w : World) (v : Value) (l : List UInt8) : Prop :=
  ∃ b o ad cap, v = .slice ad l.length cap ∧ l.length ≤ maxLen ∧ (l ≠ [] → ad = some ⟨b, o, none⟩) ∧ ∀ j (h : j < l.length), w.cell? ⟨b, o + j, none⟩ = some (.int .u8 (l[j].toNat : Int))

/-- The slice value v holds slices that hold just these lists of bytes. -/
def Parts (w : World) (v : Value) (ls : List (List UInt8)) : Prop :=
  ∃ b o ad cap, v = .slice ad ls.length cap ∧ ls.length ≤ maxLen ∧ (ls ≠ [] → ad = some ⟨b, o, none⟩) ∧ ∀ i (h : i < ls.length), ∃ vi, w.cell? ⟨b, o + i, none⟩ = some vi ∧ Bytes w vi ls[i]

end Dp
end Go.Proofs.Ytdipojfngdceoaa
