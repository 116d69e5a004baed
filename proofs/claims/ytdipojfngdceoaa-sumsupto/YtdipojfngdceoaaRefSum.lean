/- The document's Sum answers the plain sum of the text's bytes, for every text, and leaves memory as it was. -/
import Derived.Test.YtdipojfngdceoaaProg
import Derived.WalkKit
import Derived.WalkSpells
import Derived.WalkLawsBesides
import Derived.Test.YtdipojfngdceoaaPlainSum
namespace Go.Proofs.Ytdipojfngdceoaa
open Go.RowKit

set_option maxHeartbeats 400000 in
theorem refSum (s : ByteArray) (w : World) (hs : s.size ≤ maxLen) :
    Calls Try.prog 6 #[.string s] w fun e w' => e = .returned (.int .i64 (Dp.sum s.data.toList)) ∧ w' = w := by
  unfold maxLen at hs
  go_enter Try.func6, Try.ntmps6
  go_wp2
  go_loop [3, 4] (fun n i => ∃ k : Nat, k ≤ s.size ∧ i = .int .i64 k ∧ n = .int .i64 (Dp.sum (s.data.toList.take k))) (fun _ i => s.size - (intOf i).toNat)
  case atStart => exact ⟨0, Nat.zero_le _, rfl, rfl⟩
  case round =>
    obtain ⟨k, hk, rfl, rfl⟩ := hrel
    have hd := Dp.sum_bd (s.data.toList.take k)
    by_cases hlt : k < s.size
    · have hsn := Dp.sumFrom_snoc 7 (s.data.toList.take k) s[k]
      have hts := Dp.take_snoc s k hlt
      have HS : Hid (Dp.sum (s.data.toList.take (k + 1)) = (Dp.sum (s.data.toList.take k) * 257 + (s[k].toNat : Int) + 1) % 65521) := by rw [hts]; exact hsn
      clear hsn hts
      have hb : s[k].toNat < 256 := s[k].toNat_lt
      go_wp2
      go_round
      case rel => exact ⟨k + 1, by omega, by go_num, by rw [HS.out]⟩
      case measure => simp [intOf]; omega
    · go_wp2
      go_ret
      exact ⟨Dp.ret_int (by rw [List.take_of_length_le (by simp; omega)]), rfl⟩

end Go.Proofs.Ytdipojfngdceoaa
