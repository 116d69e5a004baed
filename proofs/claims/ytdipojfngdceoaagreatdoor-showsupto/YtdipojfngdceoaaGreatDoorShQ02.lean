/- Steps on the way: RefLeaf, RefLeaf2, RefState, RefTail. -/
import Derived.Test.YtdipojfngdceoaaGreatDoorShQ01
import Derived.Test.YtdipojfngdceoaaGreatDoorProg
import Derived.WalkKit
import Derived.WalkSpells
import Derived.WalkLawsBesides
namespace Go.Proofs.YtdipojfngdceoaaGreatDoor
open Go.RowKit
namespace Dp
theorem tmod_form (n m : Int) (_hm : 0 < m) : n.tmod m = if 0 ≤ n then n % m else -((-n) % m) := by
 split
 ·rename_i h; exact Int.tmod_eq_emod_of_nonneg h
 ·rename_i h
  have e : n = -(-n) := by omega
  conv => lhs; rw [e, Int.neg_tmod]
  rw [Int.tmod_eq_emod_of_nonneg (by omega)]
theorem wrap_low (n : Int) (h : n.tmod 4294967296 < 0) : wrap64 (n.tmod 4294967296 + 4294967296) = Dp.wrap n := by
 rw [tmod_form n _ (by omega)] at h ⊢
 unfold wrap64 Dp.wrap
 split at h <;> split <;> omega
theorem wrap_high (n : Int) (h : 0 ≤ n.tmod 4294967296) : n.tmod 4294967296 = Dp.wrap n := by
 rw [tmod_form n _ (by omega)] at h ⊢
 unfold Dp.wrap
 split at h <;> split <;> omega
theorem byteOf_toNat (n : Int) (h : 0 ≤ n ∧ n < 256) : ((byteOf n).toNat : Int) = n := by
 unfold byteOf
 rw [UInt8.toNat_ofNat']
 omega
end Dp
set_option maxHeartbeats 400000 in
theorem refWrap (n : Int) (w : World) :
  Calls Tryz.prog 85 #[.int .i64 n] w fun e w' => e = .returned (.int .i64 (Dp.wrap n)) ∧ w' = w := by
 by_cases h : n.tmod 4294967296 < 0
 ·go_enter Tryz.func85, Tryz.ntmps85
  go_wp2
  go_ret
  exact ⟨Dp.ret_int (Dp.wrap_low n h), rfl⟩
 ·go_enter Tryz.func85, Tryz.ntmps85
  go_wp2
  go_ret
  exact ⟨Dp.ret_int (Dp.wrap_high n (by omega)), rfl⟩
set_option maxHeartbeats 400000 in
theorem refSigned (n : Int) (w : World) (h : Dp.isWord n) :
  Calls Tryz.prog 111 #[.int .i64 n] w fun e w' => e = .returned (.int .i64 (Dp.signed n)) ∧ w' = w := by
 unfold Dp.isWord at h
 go_enter Tryz.func111, Tryz.ntmps111
 go_wp2
 all_goals
  go_ret
  refine ⟨Dp.ret_int ?_, rfl⟩
  unfold Dp.signed
  split <;> omega
theorem refOne (b : Bool) (w : World) : Calls Tryz.prog 110 #[.bool b] w fun e w' => e = .returned (.int .i64 (Dp.one b)) ∧ w' = w := by
 cases b <;>
 ·go_enter Tryz.func110, Tryz.ntmps110
  go_wp2
  go_ret
  exact ⟨rfl, rfl⟩
set_option maxHeartbeats 400000 in
theorem refTwo (n : Int) (w : World) (h : 0 ≤ n ∧ n ≤ 4294967296) :
  Calls Tryz.prog 83 #[.int .i64 n] w fun e w' => e = .returned (.string (Dp.str (Dp.two n))) ∧ Dp.Keeps (fun _ => False) w w' := by
 have b1 := Dp.byteOf_toNat (n / 256 % 256) (by omega)
 have b2 := Dp.byteOf_toNat (n % 256) (by omega)
 have hc : ∀ (wx : World), Dp.Row wx w.heap.size 5 [.int .u8 (n / 256 % 256), .int .u8 (n % 256)] → ∀ j (hj : j < (Dp.two n).length), wx.cell? ((⟨w.heap.size, 0, none⟩ : Addr).add j) = some (.int .u8 ((Dp.two n)[j].toNat : Int)) := by
  intro wx hx j hj
  have hj' : j < 2 := hj
  rw [Dp.add_zero_off, hx.cell]
  match j, hj' with
  | 0, _ => simp [Dp.two, b1]
  | 1, _ => simp [Dp.two, b2]
 have HC := hc
 have H : Hid (∀ (wx : World), Dp.Row wx w.heap.size 5 [.int .u8 (n / 256 % 256), .int .u8 (n % 256)] → ∀ j (hj : j < (Dp.two n).length), wx.cell? ((⟨w.heap.size, 0, none⟩ : Addr).add j) = some (.int .u8 ((Dp.two n)[j].toNat : Int))) := hc
 clear hc HC b1 b2
 go_enter Tryz.func83, Tryz.ntmps83
 go_wp2_with (refine Dp.wpList_toStr rfl _ 47 9 5 rfl Tryz.underlying47 Tryz.underlying5 Tryz.underlying9 _ 2 2 rfl (Dp.two n) rfl (H.out _ (Dp.Row.allocNew _ _ _)) ?_)
 go_wp2
 go_ret
 exact ⟨rfl, (Dp.Keeps.refl _ _).alloc _⟩
namespace Dp
theorem ret_str {a b : ByteArray} (h : a = b) : Ending.returned (.string a) = .returned (.string b) := by rw [h]
theorem mul_bd (a b A B : Int) (ha : 0 ≤ a ∧ a ≤ A) (hb : 0 ≤ b ∧ b ≤ B) : 0 ≤ a * b ∧ a * b ≤ A * B :=
 ⟨Int.mul_nonneg ha.1 hb.1, Int.mul_le_mul ha.2 hb.2 hb.1 (by omega)⟩
def numTo (l : List UInt8) (at_ : Nat) : Nat → Int
 | 0 => 0
 | n + 1 => numTo l at_ n * 256 + ((l.getD (at_ + n) 0).toNat : Int)
theorem numTo_bd (l : List UInt8) (at_ n : Nat) (h : n ≤ 4) : 0 ≤ numTo l at_ n ∧ numTo l at_ n < 4294967296 := by
 have hb : ∀ j, (l.getD j 0).toNat < 256 := fun j => (l.getD j 0).toNat_lt
 have h0 := hb at_
 have h1 := hb (at_ + 1)
 have h2 := hb (at_ + 2)
 have h3 := hb (at_ + 3)
 match n, h with
 | 0, _ => simp [numTo]
 | 1, _ => simp only [numTo, Nat.add_zero]; omega
 | 2, _ => simp only [numTo, Nat.add_zero]; omega
 | 3, _ => simp only [numTo, Nat.add_zero]; omega
 | 4, _ => simp only [numTo, Nat.add_zero]; omega
theorem byte_lt (l : List UInt8) (k : Nat) : (l[k]?.getD 0).toNat < 256 := UInt8.toNat_lt _
theorem str_get (l : List UInt8) (k : Nat) (h : k < (str l).size) : (str l)[k] = l.getD k 0 := by
 have h' : k < l.length := by simpa [str_size] using h
 show (str l).data[k] = _
 simp [str, List.getD_eq_getElem?_getD, List.getElem?_eq_getElem h']
end Dp
set_option maxHeartbeats 400000 in
theorem refFour (n : Int) (w : World) (h : 0 ≤ n ∧ n ≤ 4294967296) :
  Calls Tryz.prog 82 #[.int .i64 n] w fun e w' => e = .returned (.string (Dp.str (Dp.four n))) ∧ Dp.Keeps (fun _ => False) w w' := by
 go_enter Tryz.func82, Tryz.ntmps82
 go_wp2_with fail
 refine (refTwo _ _ (by omega)).mono ?_
 rintro e w1 ⟨rfl, k1⟩
 go_wp2_with fail
 refine (refTwo _ _ (by omega)).mono ?_
 rintro e w2 ⟨rfl, k2⟩
 have hl1 := Dp.str_size (Dp.two (n / 65536))
 have hl2 := Dp.str_size (Dp.two (n % 65536))
 rw [Dp.two_length] at hl1 hl2
 go_wp2
 go_ret
 exact ⟨Dp.ret_str (Dp.str_append _ _), k1.trans k2⟩
set_option maxHeartbeats 400000 in
theorem refNumber (l : List UInt8) (at_ n : Nat) (w : World) (h : at_ + n ≤ l.length) (hn : n ≤ 4) (hl : l.length ≤ 16777216) :
  Calls Tryz.prog 115 #[.string (Dp.str l), .int .i64 at_, .int .i64 n] w fun e w' => e = .returned (.int .i64 (Dp.numTo l at_ n)) ∧ w' = w := by
 have hsz := Dp.str_size l
 go_enter Tryz.func115, Tryz.ntmps115
 go_wp2
 go_loop [7, 8] (fun v i => ∃ k : Nat, k ≤ n ∧ i = .int .i64 k ∧ v = .int .i64 (Dp.numTo l at_ k)) (fun _ i => n - (intOf i).toNat)
 case atStart => exact ⟨0, Nat.zero_le _, rfl, rfl⟩
 case round =>
  obtain ⟨k, hk, rfl, rfl⟩ := hrel
  have hb := Dp.numTo_bd l at_ k (by omega)
  by_cases hlt : k < n
  ·have hg := Dp.str_get l (at_ + k) (by omega)
   have hbyte := Dp.byte_lt l (at_ + k)
   have HS : Hid (Dp.numTo l at_ (k + 1) = Dp.numTo l at_ k * 256 + ((l[at_ + k]?.getD 0).toNat : Int)) := by
    show Dp.numTo l at_ k * 256 + ((l.getD (at_ + k) 0).toNat : Int) = _
    rw [List.getD_eq_getElem?_getD]
   go_wp2
   go_round
   case rel => exact ⟨k + 1, by omega, by go_num, by rw [HS.out]⟩
   case measure => simp [intOf]; omega
  ·obtain rfl : k = n := by omega
   go_wp2
   go_ret
   exact ⟨rfl, rfl⟩
set_option maxHeartbeats 400000 in
theorem refProduct (a b : Int) (w : World) (ha : Dp.isWord a) (hb : Dp.isWord b) :
  Calls Tryz.prog 107 #[.int .i64 a, .int .i64 b] w fun e w' => e = .returned (.int .i64 (Dp.wrap (a * b))) ∧ w' = w := by
 unfold Dp.isWord at ha hb
 have h1 := Dp.mul_bd a (b % 65536) 4294967295 65535 (by omega) (by omega)
 have h2 := Dp.mul_bd (a % 65536) (b / 65536) 65535 65535 (by omega) (by omega)
 have HP : Hid (Dp.wrap (a * (b % 65536) % 4294967296 + (a % 65536 * (b / 65536) % 4294967296) * 65536 % 4294967296) = Dp.wrap (a * b)) := Dp.product_eq a b
 go_enter Tryz.func107, Tryz.ntmps107
 go_wp2_with (go_at_call 85; refine (refWrap _ _).mono ?_; rintro e w' ⟨rfl, rfl⟩)
 go_ret
 exact ⟨Dp.ret_int HP.out, rfl⟩
namespace Dp
theorem told_bd (l : List UInt8) (at_ : Int) : isWord (told l at_) := by
 have hb : ∀ j, 0 ≤ byteAt l j ∧ byteAt l j < 256 := by
  intro j
  unfold byteAt
  have := (l.getD j.toNat 0).toNat_lt
  split <;> omega
 have h0 := hb at_
 have h1 := hb (at_ + 1)
 have h2 := hb (at_ + 2)
 have h3 := hb (at_ + 3)
 unfold isWord told
 omega
def toldTo (l : List UInt8) (at_ : Int) : Nat → Int
 | 0 => 0
 | n + 1 => toldTo l at_ n * 256 + byteAt l (at_ + n)
theorem byteAt_bd (l : List UInt8) (j : Int) : 0 ≤ byteAt l j ∧ byteAt l j < 256 := by
 unfold byteAt
 have := (l.getD j.toNat 0).toNat_lt
 split <;> omega
theorem toldTo_bd (l : List UInt8) (at_ : Int) (n : Nat) (h : n ≤ 4) : 0 ≤ toldTo l at_ n ∧ toldTo l at_ n < 4294967296 := by
 have h0 := byteAt_bd l (at_ + (0 : Nat))
 have h1 := byteAt_bd l (at_ + (1 : Nat))
 have h2 := byteAt_bd l (at_ + (2 : Nat))
 have h3 := byteAt_bd l (at_ + (3 : Nat))
 match n, h with
 | 0, _ => simp [toldTo]
 | 1, _ => simp only [toldTo]; omega
 | 2, _ => simp only [toldTo]; omega
 | 3, _ => simp only [toldTo]; omega
 | 4, _ => simp only [toldTo]; omega
theorem toldTo_four (l : List UInt8) (at_ : Int) : toldTo l at_ 4 = told l at_ := by
 simp [toldTo, told]
theorem byteAt_in (l : List UInt8) (j : Nat) (h : j < l.length) : byteAt l (j : Int) = ((l[j]?.getD 0).toNat : Int) := by
 unfold byteAt
 rw [if_pos (by omega), Int.toNat_natCast, List.getD_eq_getElem?_getD]
theorem byteAt_out (l : List UInt8) (j : Int) (h : ¬ j < l.length) : byteAt l j = 0 := by
 unfold byteAt
 rw [if_neg h]
end Dp
set_option maxHeartbeats 400000 in
theorem refTold (l : List UInt8) (at_ : Nat) (w : World) (h : at_ < 4294967296) (hl : l.length ≤ 16777216) :
  Calls Tryz.prog 88 #[.string (Dp.str l), .int .i64 at_] w fun e w' => e = .returned (.int .i64 (Dp.told l at_)) ∧ w' = w := by
 have hsz := Dp.str_size l
 go_enter Tryz.func88, Tryz.ntmps88
 go_wp2
 go_loop [5, 6] (fun v i => ∃ k : Nat, k ≤ 4 ∧ i = .int .i64 k ∧ v = .int .i64 (Dp.toldTo l at_ k)) (fun _ i => 4 - (intOf i).toNat)
 case atStart => exact ⟨0, Nat.zero_le _, rfl, rfl⟩
 case round =>
  obtain ⟨k, hk, rfl, rfl⟩ := hrel
  have hb := Dp.toldTo_bd l at_ k hk
  by_cases hlt : k < 4
  ·by_cases hin : at_ + k < l.length
   ·have hg := Dp.str_get l (at_ + k) (by omega)
    have hbyte : (l[at_ + k]).toNat < 256 := UInt8.toNat_lt _
    have HS : Hid (Dp.toldTo l at_ (k + 1) = Dp.toldTo l at_ k * 256 + ((l[at_ + k]).toNat : Int)) := by
     show Dp.toldTo l at_ k * 256 + Dp.byteAt l ((at_ : Int) + (k : Int)) = _
     have := Dp.byteAt_in l (at_ + k) hin
     rw [List.getElem?_eq_getElem hin] at this
     simp only [Option.getD_some] at this
     rw [← this]; simp
    have hin' : (at_ : Int) + (k : Int) < (l.length : Int) := by omega
    go_wp2
    go_round
    case rel => exact ⟨k + 1, by omega, by go_num, by rw [HS.out]⟩
    case measure => simp [intOf]; omega
   ·have HS : Hid (Dp.toldTo l at_ (k + 1) = Dp.toldTo l at_ k * 256) := by
     show Dp.toldTo l at_ k * 256 + Dp.byteAt l ((at_ : Int) + (k : Int)) = _
     rw [Dp.byteAt_out l _ (by omega), Int.add_zero]
    have hin' : ¬ (at_ : Int) + (k : Int) < (l.length : Int) := by omega
    go_wp2
    go_round
    case rel => exact ⟨k + 1, by omega, by go_num, by rw [HS.out]⟩
    case measure => simp [intOf]; omega
  ·obtain rfl : k = 4 := by omega
   go_wp2
   go_ret
   exact ⟨Dp.ret_int (Dp.toldTo_four l at_), rfl⟩
namespace Dp
theorem val_int {k : IntKind} {a b : Int} (h : a = b) : Value.int k a = Value.int k b := by rw [h]
theorem and_step (x y U V : Int) (hx : 0 ≤ x ∧ x < 2) (hy : 0 ≤ y ∧ y < 2) (hU : 0 ≤ U ∧ U ≤ 4294967296) (hV : 0 ≤ V ∧ V ≤ 4294967296) : wrap64 (V + wrap64 (wrap64 (x * y) * U)) = V + bitZ 4 x y * U := by
 rcases (show x = 0 ∨ x = 1 by omega) with rfl | rfl <;> rcases (show y = 0 ∨ y = 1 by omega) with rfl | rfl <;> simp [wrap64, bitZ] <;> omega
theorem or_step (x y U V : Int) (hx : 0 ≤ x ∧ x < 2) (hy : 0 ≤ y ∧ y < 2) (hU : 0 ≤ U ∧ U ≤ 4294967296) (hV : 0 ≤ V ∧ V ≤ 4294967296) : wrap64 (V + wrap64 (wrap64 (x + y - wrap64 (x * y)) * U)) = V + bitZ 5 x y * U := by
 rcases (show x = 0 ∨ x = 1 by omega) with rfl | rfl <;> rcases (show y = 0 ∨ y = 1 by omega) with rfl | rfl <;> simp [wrap64, bitZ] <;> omega
theorem xor_step (x y U V : Int) (hx : 0 ≤ x ∧ x < 2) (hy : 0 ≤ y ∧ y < 2) (hU : 0 ≤ U ∧ U ≤ 4294967296) (hV : 0 ≤ V ∧ V ≤ 4294967296) : wrap64 (V + wrap64 (wrap64 (x + y - wrap64 (2 * x * y)) * U)) = V + bitZ 6 x y * U := by
 rcases (show x = 0 ∨ x = 1 by omega) with rfl | rfl <;> rcases (show y = 0 ∨ y = 1 by omega) with rfl | rfl <;> simp [wrap64, bitZ] <;> omega
end Dp
set_option maxHeartbeats 800000 in
theorem refBits (op a b : Int) (w : World) (ha : Dp.isWord a) (hb : Dp.isWord b) (hop : op = 4 ∨ op = 5 ∨ op = 6) :
  Calls Tryz.prog 108 #[.int .i64 op, .int .i64 a, .int .i64 b] w fun e w' => e = .returned (.int .i64 (Dp.bits op a b)) ∧ w' = w := by
 have HA : Hid (Dp.isWord a ∧ Dp.isWord b) := ⟨ha, hb⟩
 have HO : Hid (op = 4 ∨ op = 5 ∨ op = 6) := hop
 unfold Dp.isWord at ha hb
 have o1 : 4 ≤ op ∧ op ≤ 6 := by omega
 clear hop
 go_enter Tryz.func108, Tryz.ntmps108
 go_wp2
 go_loop [7, 8, 9] (fun v u i => ∃ k : Nat, k ≤ 32 ∧ i = .int .i64 k ∧ u = .int .i64 ((2 ^ k : Nat) : Int) ∧ v = .int .i64 (Dp.bitsTo op a.toNat b.toNat k)) (fun _ _ i => 32 - (intOf i).toNat)
 case atStart => exact ⟨0, Nat.zero_le _, rfl, rfl, by simp [Dp.bitsTo, Nat.mod_one]⟩
 case round =>
  obtain ⟨k, hk, rfl, rfl, rfl⟩ := hrel
  have h1 := Dp.bitsTo_lt op a.toNat b.toNat k
  have h2 := Dp.div_pow_bit a ha.1 k
  have h3 := Dp.div_pow_bit b hb.1 k
  have HS : Hid ((Dp.bitsTo op a.toNat b.toNat (k + 1) : Int) = Dp.bitsTo op a.toNat b.toNat k + Dp.bitZ op ((a.toNat / 2 ^ k % 2 : Nat) : Int) ((b.toNat / 2 ^ k % 2 : Nat) : Int) * ((2 ^ k : Nat) : Int)) := Dp.bitsTo_succ op _ _ k HO.out
  have HU : Hid (((2 ^ (k + 1) : Nat) : Int) = 2 * ((2 ^ k : Nat) : Int)) := by unfold Hid; rw [Nat.pow_succ]; omega
  rw [← h2, ← h3] at HS
  have hx : 0 ≤ a / ((2 ^ k : Nat) : Int) % 2 ∧ a / ((2 ^ k : Nat) : Int) % 2 < 2 := by omega
  have hy : 0 ≤ b / ((2 ^ k : Nat) : Int) % 2 ∧ b / ((2 ^ k : Nat) : Int) % 2 < 2 := by omega
  have hu : 1 ≤ 2 ^ k ∧ 2 ^ k ≤ 4294967296 := ⟨Nat.one_le_two_pow, by have := Nat.pow_le_pow_right (n := 2) (by decide) hk; omega⟩
  have hx0 : 0 ≤ a / ((2 ^ k : Nat) : Int) := Int.ediv_nonneg ha.1 (Int.natCast_nonneg _)
  have hy0 : 0 ≤ b / ((2 ^ k : Nat) : Int) := Int.ediv_nonneg hb.1 (Int.natCast_nonneg _)
  clear h2 h3
  generalize hU : 2 ^ k = U at *
  generalize hV0 : Dp.bitsTo op a.toNat b.toNat k = V at *
  have HV0 : Hid (Dp.bitsTo op a.toNat b.toNat k = V) := hV0
  clear hV0
  by_cases hlt : k < 32
  ·clear hU
   rcases HO.out with rfl | rfl | rfl
   ·go_wp2
    go_round
    case rel =>
     exact ⟨k + 1, by omega, by go_num, by rw [HU.out], Dp.val_int (by rw [HS.out]; exact Dp.and_step _ _ _ _ hx hy (by omega) (by omega))⟩
    case measure => simp [intOf]; omega
   ·go_wp2
    go_round
    case rel =>
     exact ⟨k + 1, by omega, by go_num, by rw [HU.out], Dp.val_int (by rw [HS.out]; exact Dp.or_step _ _ _ _ hx hy (by omega) (by omega))⟩
    case measure => simp [intOf]; omega
   ·go_wp2
    go_round
    case rel =>
     exact ⟨k + 1, by omega, by go_num, by rw [HU.out], Dp.val_int (by rw [HS.out]; exact Dp.xor_step _ _ _ _ hx hy (by omega) (by omega))⟩
    case measure => simp [intOf]; omega
  ·obtain rfl : k = 32 := by omega
   clear hU
   go_wp2
   go_ret
   exact ⟨Dp.ret_int (by rw [← HV0.out]; exact Dp.bitsTo_all op a b HA.out.1 HA.out.2 HO.out), rfl⟩
set_option maxHeartbeats 400000 in
theorem refShl (a : Int) (n : Nat) (w : World) (ha : Dp.isWord a) (hn : n < 32) :
  Calls Tryz.prog 109 #[.int .i64 a, .int .i64 n, .bool true] w fun e w' => e = .returned (.int .i64 (Dp.shlTo a n)) ∧ w' = w := by
 go_enter Tryz.func109, Tryz.ntmps109
 go_wp2
 go_loop [0, 7] (fun v i => ∃ k : Nat, k ≤ n ∧ i = .int .i64 k ∧ v = .int .i64 (Dp.shlTo a k)) (fun _ i => n - (intOf i).toNat)
 case atStart => exact ⟨0, Nat.zero_le _, rfl, by rw [Dp.shlTo_zero a ha]⟩
 case round =>
  obtain ⟨k, hk, rfl, rfl⟩ := hrel
  have hb := Dp.shlTo_word a k
  unfold Dp.isWord at hb
  by_cases hlt : k < n
  ·have HS : Hid (Dp.wrap (2 * Dp.shlTo a k) = Dp.shlTo a (k + 1)) := Dp.shlTo_succ a k
   go_wp2_with (go_at_call 85; refine (refWrap _ _).mono ?_; rintro e w' ⟨rfl, rfl⟩)
   go_round
   case rel => exact ⟨k + 1, by omega, by go_num, by rw [HS.out]⟩
   case measure => simp [intOf]; omega
  ·obtain rfl : k = n := by omega
   go_wp2
   go_ret
   exact ⟨rfl, rfl⟩
set_option maxHeartbeats 400000 in
theorem refShr (a : Int) (n : Nat) (w : World) (ha : Dp.isWord a) (hn : n < 32) :
  Calls Tryz.prog 109 #[.int .i64 a, .int .i64 n, .bool false] w fun e w' => e = .returned (.int .i64 (Dp.shrTo a n)) ∧ w' = w := by
 go_enter Tryz.func109, Tryz.ntmps109
 go_wp2
 go_loop [0, 7] (fun v i => ∃ k : Nat, k ≤ n ∧ i = .int .i64 k ∧ v = .int .i64 (Dp.shrTo a k)) (fun _ i => n - (intOf i).toNat)
 case atStart => exact ⟨0, Nat.zero_le _, rfl, by simp [Dp.shrTo]⟩
 case round =>
  obtain ⟨k, hk, rfl, rfl⟩ := hrel
  have hb := Dp.shrTo_word a ha k
  unfold Dp.isWord at hb
  by_cases hlt : k < n
  ·have HS : Hid (Dp.shrTo a k / 2 = Dp.shrTo a (k + 1)) := Dp.shrTo_succ a k
   go_wp2
   go_round
   case rel => exact ⟨k + 1, by omega, by go_num, by rw [HS.out]⟩
   case measure => simp [intOf]; omega
  ·obtain rfl : k = n := by omega
   go_wp2
   go_ret
   exact ⟨rfl, rfl⟩
namespace Dp
def insCells (i : Ins) : List Value := [.int .i64 i.op, .int .i64 i.a, .int .i64 i.b, .int .i64 i.c, .int .i64 i.n]
def insVal (i : Ins) : Value := .agg (insCells i).toArray
def regCells (l : List Int) : List Value := l.map (Value.int .i64)
def stCells (s : Cs) (root : Int) : List Value := [.int .i64 s.pc, .int .i64 s.steps, .int .i64 s.code, .bool s.over] ++ regCells s.regs ++ [.int .i64 root]
def stVal (s : Cs) (root : Int) : Value := .agg (stCells s root).toArray
theorem stCells_length (s : Cs) (root : Int) (h : s.regs.length = 8) : (stCells s root).length = 13 := by simp [stCells, regCells, h]
theorem stCells_reg (s : Cs) (root : Int) (hl : s.regs.length = 8) (i : Int) (hi : 0 ≤ i ∧ i < 8) : (stCells s root)[4 + i.toNat]? = some (.int .i64 (s.reg i)) := by
 have h : i.toNat < s.regs.length := by omega
 unfold stCells
 rw [List.append_assoc, List.getElem?_append_right (by simp), List.getElem?_append_left (by simp [regCells]; omega)]
 simp [regCells, Cs.reg, h]
theorem stCells_put (s : Cs) (root : Int) (hl : s.regs.length = 8) (i v : Int) (hi : 0 ≤ i ∧ i < 8) : (stCells s root).set (4 + i.toNat) (.int .i64 v) = stCells (s.put i v) root := by
 have h : i.toNat < s.regs.length := by omega
 unfold stCells
 rw [List.append_assoc, List.set_append_right _ _ (by simp), List.set_append_left _ _ (by simp [regCells]; omega)]
 simp [regCells, Cs.put, List.map_set]
theorem stCells_one (s : Cs) (root : Int) : ∀ v ∈ stCells s root, v.oneCell' = true := by
 intro v hv
 simp [stCells, regCells] at hv
 rcases hv with rfl | rfl | rfl | rfl | ⟨x, _, rfl⟩ | rfl <;> rfl
end Dp
theorem sizeState : (Tryz.prog.info? 74).map (·.size) = some 13 := by kernel_rfl
theorem zeroState : (Tryz.prog.info? 74).map (fun i => i.zero) = some (some (.agg (Dp.stCells ⟨0, 0, 0, false, [0, 0, 0, 0, 0, 0, 0, 0]⟩ 0).toArray)) := by kernel_rfl
theorem sizeIns : (Tryz.prog.info? 143).map (·.size) = some 5 := by kernel_rfl
set_option maxHeartbeats 400000 in
theorem refDecode (n : Int) (w : World) (h : Dp.isWord n) :
  Calls Tryz.prog 84 #[.int .i64 n] w fun e w' => e = .returned (Dp.insVal (Dp.decode n)) ∧ Dp.Keeps (fun _ => False) w w' := by
 unfold Dp.isWord at h
 by_cases hn : 65536 ≤ n % 131072
 ·have HD : Hid (Dp.decode n = ⟨n / 67108864, n / 8388608 % 8, n / 1048576 % 8, n / 131072 % 8, n % 131072 - 131072⟩) := by unfold Hid Dp.decode; rw [if_pos (by omega)]
  go_enter Tryz.func84, Tryz.ntmps84
  go_wp2
  refine bodyPost_ret (v := Dp.insVal (Dp.decode n)) (by simp [results, Tryz.results84, go_sem, HD.out, Dp.insVal, Dp.insCells]) rfl ⟨rfl, ?_⟩
  exact (Dp.Keeps.refl _ _).alloc _
 ·have HD : Hid (Dp.decode n = ⟨n / 67108864, n / 8388608 % 8, n / 1048576 % 8, n / 131072 % 8, n % 131072⟩) := by unfold Hid Dp.decode; rw [if_neg (by omega)]
  go_enter Tryz.func84, Tryz.ntmps84
  go_wp2
  refine bodyPost_ret (v := Dp.insVal (Dp.decode n)) (by simp [results, Tryz.results84, go_sem, HD.out, Dp.insVal, Dp.insCells]) rfl ⟨rfl, ?_⟩
  exact (Dp.Keeps.refl _ _).alloc _
namespace Dp
theorem Row.st {w : World} {g : Nat} {e : TypeId} {s : Cs} {root : Int} (h : Row w g e (stCells s root)) : w.cell? ⟨g, 0, none⟩ = some (.int .i64 s.pc) ∧ w.cell? ⟨g, 1, none⟩ = some (.int .i64 s.steps) ∧ w.cell? ⟨g, 2, none⟩ = some (.int .i64 s.code) ∧ w.cell? ⟨g, 3, none⟩ = some (.bool s.over) := by
 refine ⟨?_, ?_, ?_, ?_⟩ <;> (rw [h.cell]; rfl)
theorem Row.stReg {w : World} {g : Nat} {e : TypeId} {s : Cs} {root : Int} (h : Row w g e (stCells s root)) (hl : s.regs.length = 8) (i : Int) (hi : 0 ≤ i ∧ i < 8) : w.cell? ⟨g, 4 + i.toNat, none⟩ = some (.int .i64 (s.reg i)) := by
 rw [h.cell]; exact stCells_reg s root hl i hi
theorem Row.insC {w : World} {g : Nat} {e : TypeId} {i : Ins} (h : Row w g e (insCells i)) : w.cell? ⟨g, 0, none⟩ = some (.int .i64 i.op) ∧ w.cell? ⟨g, 1, none⟩ = some (.int .i64 i.a) ∧ w.cell? ⟨g, 2, none⟩ = some (.int .i64 i.b) ∧ w.cell? ⟨g, 3, none⟩ = some (.int .i64 i.c) ∧ w.cell? ⟨g, 4, none⟩ = some (.int .i64 i.n) := by
 refine ⟨?_, ?_, ?_, ?_, ?_⟩ <;> (rw [h.cell]; rfl)
end Dp
set_option maxHeartbeats 800000 in
theorem refMoved (s : Dp.Cs) (root : Int) (i : Dp.Ins) (v : Int) (load : Bool) (w : World) (hs : s.Ok) (hi : i.Ok) :
  Calls Tryz.prog 86 #[Dp.stVal s root, Dp.insVal i, .int .i64 v, .bool load] w fun e w' => e = .returned (Dp.stVal (Dp.moved s i v load) root) ∧ Dp.Keeps (fun _ => False) w w' := by
 have hpc := hs.pc
 have hst := hs.steps
 unfold Dp.isWord at hpc hst
 go_enter Tryz.func86, Tryz.ntmps86
 go_wp2_with (refine Dp.wpList_box_row rfl 74 _ rfl (Dp.stCells s root) rfl ?_)
 intro w1 r1 z1 k1
 go_wp2_with (refine Dp.wpList_box_row rfl 143 _ rfl (Dp.insCells i) rfl ?_)
 intro w2 r2 z2 k2
 go_wp2_with (refine Dp.wpList_alloc_row rfl 74 rfl _ zeroState ?_)
 intro w3 r3 z3 k3
 have rs := (r1.keep k2 (fun e => e)).keep k3 (fun e => e)
 have ri := r2.keep k3 (fun e => e)
 have r3' : Dp.Row w3 (w.heap.size + 1 + 1) 74 ([] ++ Dp.stCells ⟨0, 0, 0, false, [0, 0, 0, 0, 0, 0, 0, 0]⟩ 0 ++ []) := by rw [List.append_nil, List.nil_append]; exact r3
 have kk : Dp.Keeps (fun _ => False) w w3 := (k1.trans k2).trans k3
 obtain ⟨c0, c1, _, _⟩ := rs.st
 obtain ⟨_, ca, _⟩ := ri.insC
 have cr := rs.stReg hs.len i.a hi.a
 have f0 := rs.frozen 0
 have f1 := rs.frozen 1
 have fr := rs.frozen (4 + i.a.toNat)
 have hia := hi.a
 have hl := hs.len
 clear r1 z1 k1 r2 z2 k2 r3 z3 k3 ri
 cases load with
 | true =>
  have HR : Hid (Dp.Row (((w3.setCell ⟨w.heap.size, 4 + i.a.toNat, none⟩ (.int .i64 v)).setCell ⟨w.heap.size, 0, none⟩ (.int .i64 (Dp.wrap (s.pc + 1)))).setCell ⟨w.heap.size, 1, none⟩ (.int .i64 (Dp.wrap (s.steps + 1)))) w.heap.size 74 ([] ++ Dp.stCells (Dp.moved s i v true) root ++ [])) := by
   have h := ((rs.set (4 + i.a.toNat) (.int .i64 v)).set 0 (.int .i64 (Dp.wrap (s.pc + 1)))).set 1 (.int .i64 (Dp.wrap (s.steps + 1)))
   rw [Dp.stCells_put s root hl i.a v hia] at h
   unfold Hid; rw [List.append_nil, List.nil_append]; exact h
  have HR3 : Hid (Dp.Row (((w3.setCell ⟨w.heap.size, 4 + i.a.toNat, none⟩ (.int .i64 v)).setCell ⟨w.heap.size, 0, none⟩ (.int .i64 (Dp.wrap (s.pc + 1)))).setCell ⟨w.heap.size, 1, none⟩ (.int .i64 (Dp.wrap (s.steps + 1)))) (w.heap.size + 1 + 1) 74 ([] ++ Dp.stCells ⟨0, 0, 0, false, [0, 0, 0, 0, 0, 0, 0, 0]⟩ 0 ++ [])) :=
   ((r3'.setOther _ _ (show w.heap.size + 1 + 1 ≠ w.heap.size by omega)).setOther _ _ (show w.heap.size + 1 + 1 ≠ w.heap.size by omega)).setOther _ _ (show w.heap.size + 1 + 1 ≠ w.heap.size by omega)
  clear rs r3'
  have hlm : (Dp.stCells (Dp.moved s i v true) root).length = 13 := Dp.stCells_length _ _ (by simp [Dp.moved, hl])
  go_wp2_with fail
  refine (refWrap _ _).mono ?_
  rintro e w' ⟨rfl, rfl⟩
  go_wp2_with fail
  refine (refWrap _ _).mono ?_
  rintro e w' ⟨rfl, rfl⟩
  go_wp2_with (refine Dp.wpList_load_in rfl 74 _ rfl w.heap.size 0 rfl 74 [] _ [] HR.out rfl _ Tryz.underlying74 rfl (by rw [sizeState, hlm]) ?_)
  intro _
  go_wp2_with (refine Dp.wpList_store_in rfl 74 _ _ rfl (w.heap.size + 1 + 1) 0 rfl (Dp.stCells (Dp.moved s i v true) root) rfl 74 [] _ [] HR3.out rfl (by rw [hlm]; rfl) (by rw [sizeState, hlm]) (Dp.stCells_one _ _) ?_)
  intro w4 r4 z4 k4
  go_wp2
  refine bodyPost_ret (v := Dp.stVal (Dp.moved s i v true) root) (results_cell_row rfl _ _ (w.heap.size + 1 + 1) 74 _ (0, 0) _ rfl (by simpa [Dp.Row] using r4) Tryz.underlying74 rfl (by rw [sizeState, List.size_toArray, hlm])) rfl ⟨rfl, ?_⟩
  have h5 := ((kk.setCell (p := ⟨w.heap.size, 4 + i.a.toNat, none⟩) (.inl (Nat.le_refl _)) (.int .i64 v)).setCell (p := ⟨w.heap.size, 0, none⟩) (.inl (Nat.le_refl _)) (.int .i64 (Dp.wrap (s.pc + 1)))).setCell (p := ⟨w.heap.size, 1, none⟩) (.inl (Nat.le_refl _)) (.int .i64 (Dp.wrap (s.steps + 1)))
  exact h5.next k4 (fun k hk e => by omega)
 | false =>
  have HR : Hid (Dp.Row ((w3.setCell ⟨w.heap.size, 0, none⟩ (.int .i64 (Dp.wrap (s.pc + 1)))).setCell ⟨w.heap.size, 1, none⟩ (.int .i64 (Dp.wrap (s.steps + 1)))) w.heap.size 74 ([] ++ Dp.stCells (Dp.moved s i v false) root ++ [])) := by
   have h := (rs.set 0 (.int .i64 (Dp.wrap (s.pc + 1)))).set 1 (.int .i64 (Dp.wrap (s.steps + 1)))
   unfold Hid; rw [List.append_nil, List.nil_append]; exact h
  have HR3 : Hid (Dp.Row ((w3.setCell ⟨w.heap.size, 0, none⟩ (.int .i64 (Dp.wrap (s.pc + 1)))).setCell ⟨w.heap.size, 1, none⟩ (.int .i64 (Dp.wrap (s.steps + 1)))) (w.heap.size + 1 + 1) 74 ([] ++ Dp.stCells ⟨0, 0, 0, false, [0, 0, 0, 0, 0, 0, 0, 0]⟩ 0 ++ [])) :=
   (r3'.setOther _ _ (show w.heap.size + 1 + 1 ≠ w.heap.size by omega)).setOther _ _ (show w.heap.size + 1 + 1 ≠ w.heap.size by omega)
  clear rs r3'
  have hlm : (Dp.stCells (Dp.moved s i v false) root).length = 13 := Dp.stCells_length _ _ (by simp [Dp.moved, hl])
  go_wp2_with fail
  refine (refWrap _ _).mono ?_
  rintro e w' ⟨rfl, rfl⟩
  go_wp2_with fail
  refine (refWrap _ _).mono ?_
  rintro e w' ⟨rfl, rfl⟩
  go_wp2_with (refine Dp.wpList_load_in rfl 74 _ rfl w.heap.size 0 rfl 74 [] _ [] HR.out rfl _ Tryz.underlying74 rfl (by rw [sizeState, hlm]) ?_)
  intro _
  go_wp2_with (refine Dp.wpList_store_in rfl 74 _ _ rfl (w.heap.size + 1 + 1) 0 rfl (Dp.stCells (Dp.moved s i v false) root) rfl 74 [] _ [] HR3.out rfl (by rw [hlm]; rfl) (by rw [sizeState, hlm]) (Dp.stCells_one _ _) ?_)
  intro w4 r4 z4 k4
  go_wp2
  refine bodyPost_ret (v := Dp.stVal (Dp.moved s i v false) root) (results_cell_row rfl _ _ (w.heap.size + 1 + 1) 74 _ (0, 0) _ rfl (by simpa [Dp.Row] using r4) Tryz.underlying74 rfl (by rw [sizeState, List.size_toArray, hlm])) rfl ⟨rfl, ?_⟩
  have h5 := (kk.setCell (p := ⟨w.heap.size, 0, none⟩) (.inl (Nat.le_refl _)) (.int .i64 (Dp.wrap (s.pc + 1)))).setCell (p := ⟨w.heap.size, 1, none⟩) (.inl (Nat.le_refl _)) (.int .i64 (Dp.wrap (s.steps + 1)))
  exact h5.next k4 (fun k hk e => by omega)
theorem Hid.mk_ {p : Prop} (h : p) : Hid p := h
namespace Dp
theorem plain_form (s : Cs) (i : Ins) (V NX : Int) (hp : isPlain i.op = true) (h10 : ¬ (i.op = 10 ∧ s.reg i.c = 0)) (h0 : i.op ≠ 0) (hV : aluOf s i = V) (hN : nextOf s i = NX) :
  plain s i = (⟨NX, wrap (s.steps + 1), s.code, s.over, s.regs.set i.a.toNat V⟩, 0) := by
 unfold plain
 rw [hp, if_neg (by simp), if_neg h10, if_neg h0, if_neg h0, hV, hN]
theorem plain_halt (s : Cs) (i : Ins) (h0 : i.op = 0) : plain s i = (⟨s.pc, wrap (s.steps + 1), s.reg i.a, true, s.regs.set i.a.toNat (s.reg i.a)⟩, 0) := by
 have h1 : isPlain i.op = true := by rw [h0]; rfl
 unfold plain
 rw [h1, if_neg (by simp), if_neg (by omega), if_pos h0, if_pos h0]
 simp [aluOf, nextOf, h0]
theorem plain_div (s : Cs) (i : Ins) (h : i.op = 10) (hc : s.reg i.c = 0) : plain s i = (s, 4) := by
 have h1 : isPlain i.op = true := by rw [h]; rfl
 unfold plain
 rw [h1, if_neg (by simp), if_pos ⟨h, hc⟩]
theorem plain_err (s : Cs) (i : Ins) (h : i.op = 13 ∨ i.op = 14 ∨ 19 ≤ i.op) : plain s i = (s, 2) := by
 have h1 : isPlain i.op = false := by unfold isPlain; simp; omega
 unfold plain
 rw [h1, if_pos (by simp)]
theorem set_root (s : Cs) (r r' : Int) (hl : s.regs.length = 8) : (stCells s r).set 12 (.int .i64 r') = stCells s r' := by
 unfold stCells
 rw [List.set_append_right _ _ (by simp [regCells, hl])]
 simp [regCells, hl]
theorem row_nil {w : World} {g : Nat} {e : TypeId} {cs : List Value} (h : Row w g e cs) : Row w g e ([] ++ cs ++ []) := by rw [List.append_nil, List.nil_append]; exact h
theorem halt_row {w : World} {g : Nat} {e : TypeId} {s : Cs} {root : Int} (c : Int) (rs : Row w g e (stCells s root)) : Row ((w.setCell ⟨g, 3, none⟩ (.bool true)).setCell ⟨g, 2, none⟩ (.int .i64 c)) g e (stCells { s with code := c, over := true } root) := (rs.set 3 (.bool true)).set 2 (.int .i64 c)
theorem tail_row {w : World} {g : Nat} {e : TypeId} {s : Cs} {root : Int} {i : Ins} (V NX ST : Int) (rs : Row w g e (stCells s root)) (hl : s.regs.length = 8) (hia : 0 ≤ i.a ∧ i.a < 8) :
  Row (((w.setCell ⟨g, 4 + i.a.toNat, none⟩ (.int .i64 V)).setCell ⟨g, 0, none⟩ (.int .i64 NX)).setCell ⟨g, 1, none⟩ (.int .i64 ST)) g e ([] ++ stCells ⟨NX, ST, s.code, s.over, s.regs.set i.a.toNat V⟩ root ++ []) := by
 have h := ((rs.set (4 + i.a.toNat) (.int .i64 V)).set 0 (.int .i64 NX)).set 1 (.int .i64 ST)
 rw [stCells_put s root hl i.a V hia] at h
 rw [List.append_nil, List.nil_append]; exact h
theorem halt_head {w : World} {g : Nat} {e : TypeId} {s : Cs} {root : Int} {i : Ins} (c V NX : Int) (rs : Row w g e (stCells s root)) (hl : s.regs.length = 8) (hia : 0 ≤ i.a ∧ i.a < 8) :
  Row ((((w.setCell ⟨g, 3, none⟩ (.bool true)).setCell ⟨g, 2, none⟩ (.int .i64 c)).setCell ⟨g, 4 + i.a.toNat, none⟩ (.int .i64 V)).setCell ⟨g, 0, none⟩ (.int .i64 NX)) g e (stCells ⟨NX, s.steps, c, true, s.regs.set i.a.toNat V⟩ root) := by
 have h := (halt_row c rs).set (4 + i.a.toNat) (.int .i64 V)
 rw [stCells_put { s with code := c, over := true } root hl i.a V hia] at h
 exact h.set 0 (.int .i64 NX)
theorem tail_other {w : World} {g b : Nat} {e : TypeId} {cs : List Value} (a0 : Nat) (V NX ST : Value) (r : Row w b e cs) (hb : b ≠ g) :
  Row (((w.setCell ⟨g, a0, none⟩ V).setCell ⟨g, 0, none⟩ NX).setCell ⟨g, 1, none⟩ ST) b e cs := ((r.setOther _ _ hb).setOther _ _ hb).setOther _ _ hb
theorem tail_keeps {S : Nat → Prop} {w0 w : World} {g : Nat} (a0 : Nat) (V NX ST : Value) (k : Keeps S w0 w) (hg : w0.heap.size ≤ g) :
  Keeps S w0 (((w.setCell ⟨g, a0, none⟩ V).setCell ⟨g, 0, none⟩ NX).setCell ⟨g, 1, none⟩ ST) := ((k.setCell (.inl hg) _).setCell (.inl hg) _).setCell (.inl hg) _
end Dp
theorem refShlI (a n : Int) (w : World) (ha : Dp.isWord a) (hn : 0 ≤ n ∧ n < 32) :
  Calls Tryz.prog 109 #[.int .i64 a, .int .i64 n, .bool true] w fun e w' => e = .returned (.int .i64 (Dp.shlTo a n.toNat)) ∧ w' = w := by
 obtain ⟨k, rfl⟩ := Int.eq_ofNat_of_zero_le hn.1
 exact refShl a k w ha (by omega)
theorem refShrI (a n : Int) (w : World) (ha : Dp.isWord a) (hn : 0 ≤ n ∧ n < 32) :
  Calls Tryz.prog 109 #[.int .i64 a, .int .i64 n, .bool false] w fun e w' => e = .returned (.int .i64 (Dp.shrTo a n.toNat)) ∧ w' = w := by
 obtain ⟨k, rfl⟩ := Int.eq_ofNat_of_zero_le hn.1
 exact refShr a k w ha (by omega)
end Go.Proofs.YtdipojfngdceoaaGreatDoor
