/- Steps on the way: RefFits. -/
import Derived.Test.YtdipojfngdceoaaDoorPack59
import Derived.Test.YtdipojfngdceoaaDoorProg
import Derived.WalkKit
import Derived.WalkSpells
import Derived.WalkLawsBesides
import Derived.BigQuiet
import Derived.Deep.QuietTactic
import Derived.Deep.RegionHeld3
/- The document's answer: whether a proof fits. -/
namespace Go.Proofs.YtdipojfngdceoaaDoor
open Go.RowKit

namespace Dp
/-- Of a text, n bytes from a place on. -/
def part (l : List UInt8) (at_ n : Nat) : List UInt8 := (l.drop at_).take n
theorem part_length (l : List UInt8) (at_ n : Nat) (h : at_ + n ≤ l.length) : (part l at_ n).length = n := by
  unfold part; rw [List.length_take, List.length_drop]; omega
theorem str_extract (l : List UInt8) (a b : Nat) : (str l).extract a b = str (part l a (b - a)) := by
  apply ByteArray.ext
  unfold str part
  rw [ByteArray.data_extract]
  simp
/-- Whether there is a proof at a place, and it fits. -/
def fits (l : List UInt8) (at_ n : Nat) (root : Int) : Bool := decide (at_ + 20 ≤ l.length) && rooted (part l at_ 20) (numTo l at_ 4) n 8 == root
end Dp

set_option maxHeartbeats 1000000 in
theorem refFits (l : List UInt8) (at_ n : Nat) (root : Int) (w : World) (hat : at_ ≤ 1000) (hl : l.length ≤ 16777216) (hn : n ≤ 4294967296) :
    Calls Tryd.prog 44 #[.string (Dp.str l), .int .i64 at_, .int .i64 n, .int .i64 root] w fun e w' => e = .returned (.bool (Dp.fits l at_ n root)) ∧ Dp.Keeps (fun _ => False) w w' := by
  have hsz := Dp.str_size l
  by_cases hle : at_ + 20 ≤ l.length
  · have HF : Hid (Dp.fits l at_ n root = (Dp.rooted (Dp.part l at_ 20) (Dp.numTo l at_ 4) n 8 == root)) := by
      unfold Hid Dp.fits; rw [decide_eq_true hle, Bool.true_and]
    have HN : Hid (∀ wx : World, Calls Tryd.prog 46 #[.string (Dp.str l), .int .i64 at_, .int .i64 4] wx fun e w' => e = .returned (.int .i64 (Dp.numTo l at_ 4)) ∧ w' = wx) := by
      intro wx
      exact refNumber l at_ 4 wx (by omega) (by omega) hl
    have HR : Hid (∀ wx : World, Calls Tryd.prog 62 #[.string ((Dp.str l).extract at_ (at_ + 20)), .int .i64 (Dp.numTo l at_ 4), .int .i64 n] wx fun e w' => e = .returned (.int .i64 (Dp.rooted (Dp.part l at_ 20) (Dp.numTo l at_ 4) n 8)) ∧ Dp.Keeps (fun _ => False) wx w') := by
      intro wx
      rw [Dp.str_extract, Nat.add_sub_cancel_left]
      exact refRooted _ _ n wx (by rw [Dp.part_length l at_ 20 hle]; omega) (Dp.numTo_bd l at_ 4 (Nat.le_refl _)) hn
    have hw20 : IntKind.i64.wrap ((at_ : Int) + 20) = (at_ : Int) + 20 := IntWalk.i64_in _ (by omega)
    have hg : (at_ : Int) + 20 ≤ (l.length : Int) := by omega
    have hg0 : (0 : Int) ≤ (at_ : Int) + 20 := by omega
    have hg1 : (at_ : Int) ≤ (at_ : Int) + 20 := by omega
    have hg2 : (0 : Int) ≤ (at_ : Int) := by omega
    have hgd : decide ((at_ : Int) + 20 ≤ (l.length : Int)) = true := decide_eq_true hg
    generalize Dp.rooted (Dp.part l at_ 20) (Dp.numTo l at_ 4) n 8 = R at *
    generalize Dp.numTo l at_ 4 = O at *
    go_enter Tryd.func44, Tryd.ntmps44
    go_wp2
    go_region_held3 (fun wx => Dp.Keeps (fun _ => False) w wx)
      (first | with_reducible exact (Dp.Keeps.refl _ _).drew | with_reducible exact Dp.Keeps.trans ((Dp.Keeps.refl _ _).drew) k' | with_reducible exact Dp.Keeps.trans (by with_reducible assumption) k')
      ((first | (go_at_call 46; refine (HN.out _).mono ?_; rintro e w' ⟨rfl, rfl⟩) | (go_at_call 62; refine (HR.out _).mono ?_; rintro e w' ⟨rfl, k'⟩)))
    go_wp2
    go_ret
    exact ⟨by rw [HF.out]; rfl, by assumption⟩
  · have HF : Hid (Dp.fits l at_ n root = false) := by
      unfold Hid Dp.fits; rw [decide_eq_false hle, Bool.false_and]
    have hg : decide ((at_ : Int) + 20 ≤ (l.length : Int)) = false := decide_eq_false (by omega)
    go_enter Tryd.func44, Tryd.ntmps44
    go_wp2
    go_quiet (fail)
    go_wp2
    go_ret
    exact ⟨by rw [HF.out]; rfl, (Dp.Keeps.refl _ _).drewN _⟩

end Go.Proofs.YtdipojfngdceoaaDoor
