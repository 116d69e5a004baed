/- The sum of a text as a plain function on lists of bytes, and its bounds: no program is named here. -/
import Derived.WalkKit
namespace Go.Proofs.Ytdipojfngdceoaa
namespace Dp

/-- One byte of the sum. -/
def sumStep (v : Int) (b : UInt8) : Int := (v * 257 + (b.toNat : Int) + 1) % 65521
/-- The sum of a text that goes on from v. -/
def sumFrom (v : Int) (l : List UInt8) : Int := l.foldl sumStep v
/-- The sum of a text. -/
def sum (l : List UInt8) : Int := sumFrom 7 l

theorem sumStep_bd (v : Int) (b : UInt8) : 0 ≤ sumStep v b ∧ sumStep v b < 65521 := by
  unfold sumStep; omega

theorem sumFrom_bd (l : List UInt8) : ∀ v : Int, 0 ≤ v ∧ v < 65521 → 0 ≤ sumFrom v l ∧ sumFrom v l < 65521 := by
  induction l with
  | nil => intro v h; exact h
  | cons b l ih => intro v _; exact ih _ (sumStep_bd v b)

theorem sum_bd (l : List UInt8) : 0 ≤ sum l ∧ sum l < 65521 := sumFrom_bd l 7 (by omega)

theorem sumFrom_append (v : Int) (l r : List UInt8) : sumFrom v (l ++ r) = sumFrom (sumFrom v l) r := by
  unfold sumFrom; exact List.foldl_append

theorem sumFrom_snoc (v : Int) (l : List UInt8) (b : UInt8) : sumFrom v (l ++ [b]) = (sumFrom v l * 257 + (b.toNat : Int) + 1) % 65521 := by
  rw [sumFrom_append]; rfl

/-- The bytes of a string. -/
theorem take_snoc (s : ByteArray) (k : Nat) (h : k < s.size) : s.data.toList.take (k + 1) = s.data.toList.take k ++ [s[k]] := by
  rw [List.take_succ_eq_append_getElem (by simpa using h)]; rfl

theorem ret_int {k : IntKind} {a b : Int} (h : a = b) : Ending.returned (.int k a) = .returned (.int k b) := by rw [h]

end Dp
end Go.Proofs.Ytdipojfngdceoaa
