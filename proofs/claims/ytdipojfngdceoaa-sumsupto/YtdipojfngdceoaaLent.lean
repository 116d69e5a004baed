/- What 'lent' hands back: a new row of the text's bytes and the two marks behind them, and nothing old has turned. -/
import Derived.Test.YtdipojfngdceoaaRows
import Derived.WalkKit
import Derived.WalkSpells
import Derived.WalkLawsBesides
import Derived.Test.YtdipojfngdceoaaHeap
namespace Go.Proofs.Ytdipojfngdceoaa
open Go.RowKit Dp

namespace Dp
/-- The cells of a text's bytes. -/
def vals (l : List UInt8) : List Value := l.map fun b => Value.int .u8 (b.toNat : Int)
theorem length_vals (l : List UInt8) : (vals l).length = l.length := by simp [vals]
end Dp

theorem infoU8 : (Try.prog.info? 5).map (fun i => (i.zero, i.size, i.bytes)) = some (some (.int .u8 0), 1, 1) := by kernel_rfl
theorem sizeU8 : (Try.prog.info? 5).map (·.size) = some 1 := by kernel_rfl

set_option maxHeartbeats 400000 in
theorem lent_any (s : ByteArray) (w : World) (hs : s.size ≤ 16777216) :
    Calls Try.prog 4 #[.string s] w fun e w' => e = .returned (.slice (some ⟨w.heap.size, 0, none⟩) (s.size + 2) (s.size + 2)) ∧ Row w' w.heap.size 5 (vals (s.data.toList ++ [252, 253])) ∧ w'.heap.size = w.heap.size + 1 ∧ Keeps (fun _ => False) w w' := by
  go_enter Try.func4, Try.ntmps4
  go_wp2_with (at_make; refine wpList_make_row _ rfl _ _ 31 rfl 5 (.int .u8 0) 1 Try.underlying31 infoU8 rfl _ _ _ _ (s.size + 2) rfl rfl (by omega) (by omega) (by omega) (by unfold maxLen; omega) ?_)
  intro w1 r1 z1 k1
  go_wp2_with (refine wpList_copy_str rfl _ _ 31 9 rfl 5 Try.underlying31 sizeU8 w.heap.size (s.size + 2) (s.size + 2) s rfl rfl (by omega) _ 5 r1 (by rw [List.length_replicate]; omega) ?_)
  intro w2 r2 z2 k2
  have hl : (s.data.toList.map fun b => Value.int .u8 (b.toNat : Int)).length = s.size := by simp
  have c0 : w2.cell? ⟨w.heap.size, s.size, none⟩ = some (.int .u8 0) := by rw [r2.cell, List.getElem?_append_right (by omega), hl, Nat.sub_self]; rfl
  have c1 : w2.cell? ⟨w.heap.size, s.size + 1, none⟩ = some (.int .u8 0) := by rw [r2.cell, List.getElem?_append_right (by omega), hl, show s.size + 1 - s.size = 1 by omega]; rfl
  have f0 := r2.frozen s.size
  have f1 := r2.frozen (s.size + 1)
  clear hl
  go_wp2
  go_ret
  refine ⟨rfl, ?_, by simp [z2], ((k1.next k2 (fun i hi e => by omega)).setCell (.inl (Nat.le_refl _)) _).setCell (.inl (Nat.le_refl _)) _⟩
  have r3 := (r2.set s.size (.int .u8 252)).set (s.size + 1) (.int .u8 253)
  have hl : (s.data.toList.map fun b => Value.int .u8 (b.toNat : Int)).length = s.size := by simp
  rw [List.set_append_right _ _ (by omega), List.set_append_right _ _ (by omega), hl, Nat.sub_self, show s.size + 1 - s.size = 1 by omega] at r3
  simpa [vals] using r3

end Go.Proofs.Ytdipojfngdceoaa
