/- Steps on the way: RefRooted. -/
import Derived.Test.YtdipojfngdceoaaDoorPack31
import Derived.Test.YtdipojfngdceoaaDoorPack38
import Derived.Test.YtdipojfngdceoaaDoorProg
import Derived.WalkKit
import Derived.WalkSpells
import Derived.WalkLawsBesides
/- The document's answer: the root that a proof leads to, the proof of a cell. -/
namespace Go.Proofs.YtdipojfngdceoaaDoor
open Go.RowKit

namespace Dp
/-- The digest that a proof (with a word in place of its own) leads to, k layers up, for a cell. -/
def rooted (l : List UInt8) (word : Int) (n : Nat) : Nat → Int
  | 0 => sum (0 :: four word)
  | k + 1 => if n / 2 ^ k % 2 = 0 then sum (1 :: (two (rooted l word n k) ++ two (numTo l (4 + 2 * k) 2))) else sum (1 :: (two (numTo l (4 + 2 * k) 2) ++ two (rooted l word n k)))
theorem rooted_bd (l : List UInt8) (word : Int) (n k : Nat) : 0 ≤ rooted l word n k ∧ rooted l word n k < 65521 := by
  cases k with
  | zero => exact sum_bd _
  | succ k => unfold rooted; split <;> exact sum_bd _
theorem rooted_even (l : List UInt8) (word : Int) (n k : Nat) (h : n / 2 ^ k % 2 = 0) : rooted l word n (k + 1) = sum (1 :: (two (rooted l word n k) ++ two (numTo l (4 + 2 * k) 2))) := by
  show (if _ then _ else _) = _; rw [if_pos h]
theorem rooted_odd (l : List UInt8) (word : Int) (n k : Nat) (h : ¬ n / 2 ^ k % 2 = 0) : rooted l word n (k + 1) = sum (1 :: (two (numTo l (4 + 2 * k) 2) ++ two (rooted l word n k))) := by
  show (if _ then _ else _) = _; rw [if_neg h]
theorem numTo_two (l : List UInt8) (at_ : Nat) : 0 ≤ numTo l at_ 2 ∧ numTo l at_ 2 < 65536 := by
  have hb : ∀ j, (l.getD j 0).toNat < 256 := fun j => (l.getD j 0).toNat_lt
  have h0 := hb (at_ + 0)
  have h1 := hb (at_ + 1)
  unfold numTo numTo numTo
  omega
end Dp

set_option maxHeartbeats 1000000 in
theorem refRooted (l : List UInt8) (word : Int) (n : Nat) (w : World) (hl : 20 ≤ l.length ∧ l.length ≤ 16777216) (hw : Dp.isWord word) (hn : n ≤ 4294967296) :
    Calls Tryd.prog 62 #[.string (Dp.str l), .int .i64 word, .int .i64 n] w fun e w' => e = .returned (.int .i64 (Dp.rooted l word n 8)) ∧ Dp.Keeps (fun _ => False) w w' := by
  unfold Dp.isWord at hw
  go_enter Tryd.func62, Tryd.ntmps62
  go_wp2_with fail
  refine (refFour _ _ (by omega)).mono ?_
  rintro e w1 ⟨rfl, k1⟩
  have q0 : (⟨#[0]⟩ : ByteArray) = Dp.str [0] := rfl
  have q00 : (⟨#[1]⟩ : ByteArray) = Dp.str [1] := rfl
  have q1 := Dp.str_size
  have q2 := Dp.four_length
  have q3 := Dp.str_append
  go_wp2_with fail
  refine (refSum _ _ (by rw [Dp.str_size]; simp [maxLen, Dp.four_length])).mono ?_
  rintro e w2 ⟨rfl, rfl⟩
  rw [Dp.str_data]
  have q4 := Dp.two_length
  clear q1 q2 q3
  go_wp2
  go_loopw [2, 7, 8, 9] (fun nn d i _ wx => ∃ k : Nat, k ≤ 8 ∧ i = .int .i64 k ∧ nn = .int .i64 ((n / 2 ^ k : Nat) : Int) ∧ d = .int .i64 (Dp.rooted l word n k) ∧ Dp.Keeps (fun _ => False) w wx) (fun _ _ i _ _ => 8 - (intOf i).toNat)
  case atStart => exact ⟨0, Nat.zero_le _, rfl, by simp, rfl, k1⟩
  case round =>
    obtain ⟨k, hk, rfl, rfl, rfl, kk⟩ := hrel
    clear k1
    have bd := Dp.rooted_bd l word n k
    have hq : n / 2 ^ k ≤ n := Nat.div_le_self _ _
    by_cases hlt : k < 8
    · have HQ : Hid (((n / 2 ^ (k + 1) : Nat) : Int) = ((n / 2 ^ k : Nat) : Int) / 2) := by
        unfold Hid; rw [Nat.pow_succ, ← Nat.div_div_eq_div_mul]; rfl
      have bo := Dp.numTo_two l (4 + 2 * k)
      have HN : Hid (∀ (a : Int) (wx : World), a = ((4 + 2 * k : Nat) : Int) → Calls Tryd.prog 46 #[.string (Dp.str l), .int .i64 a, .int .i64 2] wx fun e w' => e = .returned (.int .i64 (Dp.numTo l (4 + 2 * k) 2)) ∧ w' = wx) := by
        rintro a wx rfl
        exact refNumber l (4 + 2 * k) 2 wx (by omega) (by omega) hl.2
      go_wp2_with fail
      refine (HN.out _ _ (by omega)).mono ?_
      rintro e w3 ⟨rfl, rfl⟩
      have q1 := Dp.str_size
      have q3 := Dp.str_append
      by_cases hev : n / 2 ^ k % 2 = 0
      · have HR : Hid (Dp.rooted l word n (k + 1) = Dp.sum (1 :: (Dp.two (Dp.rooted l word n k) ++ Dp.two (Dp.numTo l (4 + 2 * k) 2)))) := Dp.rooted_even l word n k hev
        generalize Dp.rooted l word n k = D at *
        generalize Dp.numTo l (4 + 2 * k) 2 = O at *
        generalize n / 2 ^ k = Q at *
        have hev2 : ((Q : Int) % 2 == 0) = true := by rw [beq_iff_eq]; omega
        go_wp2_with fail
        refine (refTwo _ _ (by omega)).mono ?_
        rintro e w4 ⟨rfl, k4⟩
        go_wp2_with fail
        refine (refTwo _ _ (by omega)).mono ?_
        rintro e w5 ⟨rfl, k5⟩
        go_wp2_with fail
        refine (refSum _ _ (by rw [Dp.str_size]; simp [maxLen, Dp.two_length])).mono ?_
        rintro e w6 ⟨rfl, rfl⟩
        rw [Dp.str_data]
        clear q1 q3
        go_wp2
        go_roundw
        case rel => exact ⟨k + 1, by omega, by go_num, by rw [HQ.out], by rw [HR.out], (kk.trans k4).trans k5⟩
        case measure => simp [intOf]; omega
      · have HR : Hid (Dp.rooted l word n (k + 1) = Dp.sum (1 :: (Dp.two (Dp.numTo l (4 + 2 * k) 2) ++ Dp.two (Dp.rooted l word n k)))) := Dp.rooted_odd l word n k hev
        generalize Dp.rooted l word n k = D at *
        generalize Dp.numTo l (4 + 2 * k) 2 = O at *
        generalize n / 2 ^ k = Q at *
        have hev2 : ((Q : Int) % 2 == 0) = false := by rw [beq_eq_false_iff_ne]; omega
        go_wp2_with fail
        refine (refTwo _ _ (by omega)).mono ?_
        rintro e w4 ⟨rfl, k4⟩
        go_wp2_with fail
        refine (refTwo _ _ (by omega)).mono ?_
        rintro e w5 ⟨rfl, k5⟩
        go_wp2_with fail
        refine (refSum _ _ (by rw [Dp.str_size]; simp [maxLen, Dp.two_length])).mono ?_
        rintro e w6 ⟨rfl, rfl⟩
        rw [Dp.str_data]
        clear q1 q3
        go_wp2
        go_roundw
        case rel => exact ⟨k + 1, by omega, by go_num, by rw [HQ.out], by rw [HR.out], (kk.trans k4).trans k5⟩
        case measure => simp [intOf]; omega
    · obtain rfl : k = 8 := by omega
      go_wp2
      go_ret
      exact ⟨rfl, kk⟩

end Go.Proofs.YtdipojfngdceoaaDoor
