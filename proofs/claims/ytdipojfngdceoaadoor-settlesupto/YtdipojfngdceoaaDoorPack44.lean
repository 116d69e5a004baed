/- Steps on the way: ProgWord. -/
import Derived.Test.YtdipojfngdceoaaDoorPack40
import Derived.Test.YtdipojfngdceoaaDoorPack56
import Derived.Test.YtdipojfngdceoaaDoorProg
import Derived.WalkKit
import Derived.WalkSpells
import Derived.WalkLawsBesides
/- The program's core: the word of the four bytes of a source from a place on. -/
namespace Go.Proofs.YtdipojfngdceoaaDoor
open Go.RowKit

namespace Dp
/-- The first k bytes of the word at a place. -/
def toldN (l : List UInt8) (at_ : Int) : Nat → Int
  | 0 => 0
  | k + 1 => toldN l at_ k * 256 + byteAt l (at_ + k)
theorem told_four (l : List UInt8) (at_ : Int) : toldN l at_ 4 = told l at_ := by
  unfold told
  simp only [toldN, Int.zero_mul, Int.zero_add, Int.ofNat_zero, Int.add_zero]
  simp
theorem toldN_bd (l : List UInt8) (at_ : Int) : ∀ k, 0 ≤ toldN l at_ k ∧ toldN l at_ k < 256 ^ k
  | 0 => by simp [toldN]
  | k + 1 => by
    have h := toldN_bd l at_ k
    have hb := byteAt_bd l (at_ + k)
    have e : (256 : Int) ^ (k + 1) = 256 ^ k * 256 := Int.pow_succ 256 k
    simp only [toldN]
    rw [e]
    generalize (256 : Int) ^ k = q at *
    omega
theorem or_byte (x b : Int) (hx : 0 ≤ x ∧ x < 16777216) (hb : 0 ≤ b ∧ b < 256) : Go.bits .or .u32 (x * 256) b = x * 256 + b := by
  obtain ⟨k, rfl⟩ := Int.eq_ofNat_of_zero_le hx.1
  obtain ⟨j, rfl⟩ := Int.eq_ofNat_of_zero_le hb.1
  have h := (bits_u32_nat (k * 256) j (by omega) (by omega)).2.1
  rw [show ((k * 256 : Nat) : Int) = (k : Int) * 256 by simp] at h
  rw [h]
  have e : k * 256 ||| j = k * 256 + j := by
    have := Nat.two_pow_add_eq_or_of_lt (i := 8) (b := j) (by omega) k
    rw [show (2 : Nat) ^ 8 = 256 from rfl, Nat.mul_comm] at this
    exact this.symm
  rw [e]; simp
end Dp

set_option maxRecDepth 100000 in
set_option maxHeartbeats 1000000 in
theorem progWordAt (v : Value) (l : List UInt8) (place : Int) (w : World) (hv : Dp.Bytes w v l) (hp : Dp.isWord place) :
    Calls Tryd.prog 112 #[v, .int .u32 place] w fun e w' => e = .returned (.int .u32 (Dp.told l place)) ∧ w' = w := by
  obtain ⟨b, o, ad, cap, rfl, hlen, hne, hcells⟩ := hv
  unfold maxLen at hlen
  unfold Dp.isWord at hp
  have HC := Hid.mk_ hcells
  have HN := Hid.mk_ hne
  clear hcells hne
  go_enter Tryd.func112, Tryd.ntmps112
  go_wp2
  go_loop [5, 6, 7, 8] (fun x _ _ i => ∃ k : Nat, k ≤ 4 ∧ i = .int .u64 k ∧ x = .int .u32 (Dp.toldN l place k)) (fun _ _ _ i => 4 - (intOf i).toNat)
  case atStart => exact ⟨0, by omega, rfl, rfl⟩
  case round =>
    obtain ⟨k, hk, rfl, rfl⟩ := hrel
    by_cases hlt : k < 4
    · have hb := Dp.toldN_bd l place k
      have hb2 : Dp.toldN l place k < 16777216 := by
        have : (256 : Int) ^ k ≤ 16777216 := by
          rcases (by omega : k = 0 ∨ k = 1 ∨ k = 2 ∨ k = 3) with rfl | rfl | rfl | rfl <;> decide
        omega
      have HT : Hid (Dp.toldN l place (k + 1) = Dp.toldN l place k * 256 + Dp.byteAt l (place + k)) := rfl
      by_cases hin : place + k < l.length
      · have hbb : Dp.byteAt l (place + k) = ((l[(place + k).toNat]'(by omega)).toNat : Int) := by
          unfold Dp.byteAt
          rw [if_pos hin, List.getD_eq_getElem?_getD, List.getElem?_eq_getElem (by omega)]
          rfl
        have had := HN.out (by intro e; simp [e] at hin; omega)
        subst had
        have hc := HC.out (place + k).toNat (by omega)
        rw [← hbb] at hc
        have hby := Dp.byteAt_bd l (place + k)
        have HO := Hid.mk_ (Dp.or_byte (Dp.toldN l place k) (Dp.byteAt l (place + k)) ⟨hb.1, hb2⟩ hby)
        have hb0 := hb.1
        clear hb hbb
        generalize Dp.toldN l place k = t at *
        generalize Dp.byteAt l (place + k) = bt at *
        go_wp2
        go_round
        case rel => exact ⟨k + 1, by omega, by go_num, by rw [HT.out, ← HO.out]⟩
        case measure => simp [intOf]; omega
      · have hbb : Dp.byteAt l (place + k) = 0 := by unfold Dp.byteAt; rw [if_neg hin]
        have hb0 := hb.1
        rw [hbb] at HT
        clear hb hbb
        generalize Dp.toldN l place k = t at *
        go_wp2
        go_round
        case rel => exact ⟨k + 1, by omega, by go_num, by rw [HT.out]; go_num⟩
        case measure => simp [intOf]; omega
    · obtain rfl : k = 4 := by omega
      go_wp2
      go_ret
      exact ⟨Dp.ret_int (by rw [Dp.told_four]), rfl⟩

end Go.Proofs.YtdipojfngdceoaaDoor
