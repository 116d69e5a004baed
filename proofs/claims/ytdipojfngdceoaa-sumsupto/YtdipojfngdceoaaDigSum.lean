/- The program's Sum answers the plain sum of all parts' bytes, one behind the other, for every list of parts, and leaves memory as it was. -/
import Derived.Test.YtdipojfngdceoaaRows
import Derived.WalkKit
import Derived.WalkSpells
import Derived.WalkLawsBesides
import Derived.Test.YtdipojfngdceoaaPlainSum
import Derived.Test.YtdipojfngdceoaaShapes
namespace Go.Proofs.Ytdipojfngdceoaa
open Go.RowKit

set_option maxHeartbeats 400000 in
theorem digSum (v : Value) (ls : List (List UInt8)) (w : World) (hv : Dp.Parts w v ls) :
    Calls Try.prog 8 #[v] w fun e w' => e = .returned (.int .i64 (Dp.sum ls.flatten)) ∧ w' = w := by
  obtain ⟨b, o, ad, cap, rfl, hlen, hne, hcells⟩ := hv
  unfold maxLen at hlen
  go_enter Try.func8, Try.ntmps8
  go_wp2
  go_loop [3, 10] (fun n i => ∃ k : Nat, k ≤ ls.length ∧ i = .int .i64 k ∧ n = .int .i64 (Dp.sum (ls.take k).flatten)) (fun _ i => ls.length - (intOf i).toNat)
  case atStart => exact ⟨0, Nat.zero_le _, rfl, rfl⟩
  case round =>
    obtain ⟨k, hk, rfl, rfl⟩ := hrel
    by_cases hlt : k < ls.length
    · have HA : ad = some ⟨b, o, none⟩ := hne (by intro e; simp [e] at hlt)
      subst HA
      obtain ⟨vi, hc, b2, o2, ad2, cap2, rfl, hlen2, hne2, hcells2⟩ := hcells k hlt
      unfold maxLen at hlen2
      have HS : Hid ((ls.take (k + 1)).flatten = (ls.take k).flatten ++ ls[k]) := by unfold Hid; rw [List.take_succ_eq_append_getElem hlt, List.flatten_append, List.flatten_singleton]
      clear hne
      go_wp2
      go_loop [3, 16] (fun n i => ∃ j : Nat, j ≤ ls[k].length ∧ i = .int .i64 j ∧ n = .int .i64 (Dp.sumFrom (Dp.sum (ls.take k).flatten) (ls[k].take j))) (fun _ i => ls[k].length - (intOf i).toNat)
      case atStart => exact ⟨0, Nat.zero_le _, rfl, rfl⟩
      case round =>
        obtain ⟨j, hj, rfl, rfl⟩ := hrel
        by_cases hlt2 : j < ls[k].length
        · have HA : ad2 = some ⟨b2, o2, none⟩ := hne2 (by intro e; simp [e] at hlt2)
          subst HA
          have hc2 := hcells2 j hlt2
          have hd := Dp.sumFrom_bd (ls[k].take j) (Dp.sum (ls.take k).flatten) (Dp.sum_bd _)
          have hsn := Dp.sumFrom_snoc (Dp.sum (ls.take k).flatten) (ls[k].take j) ls[k][j]
          rw [← List.take_succ_eq_append_getElem hlt2] at hsn
          have HT : Hid (Dp.sumFrom (Dp.sum (ls.take k).flatten) (ls[k].take (j + 1)) = (Dp.sumFrom (Dp.sum (ls.take k).flatten) (ls[k].take j) * 257 + (ls[k][j].toNat : Int) + 1) % 65521) := hsn
          clear hsn hne2
          have hb : ls[k][j].toNat < 256 := ls[k][j].toNat_lt
          go_wp2
          go_round
          case rel => exact ⟨j + 1, by omega, by go_num, by rw [HT.out]⟩
          case measure => simp [intOf]; omega
        · go_wp2
          go_round
          case rel => exact ⟨k + 1, by omega, by go_num, by rw [HS.out, List.take_of_length_le (show ls[k].length ≤ j by omega)]; unfold Dp.sum; rw [Dp.sumFrom_append]⟩
          case measure => simp [intOf]; omega
    · go_wp2
      go_ret
      exact ⟨Dp.ret_int (by rw [List.take_of_length_le (by omega)]), rfl⟩

theorem progSum (v : Value) (ls : List (List UInt8)) (w : World) (hv : Dp.Parts w v ls) :
    Calls Try.prog 5 #[v] w fun e w' => e = .returned (.int .i64 (Dp.sum ls.flatten)) ∧ w' = w := by
  go_enter Try.func5, Try.ntmps5
  go_wp2_with (go_at_call 8; refine (digSum _ ls _ hv).mono ?_; rintro e w' ⟨rfl, rfl⟩)
  go_ret
  exact ⟨rfl, rfl⟩

end Go.Proofs.Ytdipojfngdceoaa
