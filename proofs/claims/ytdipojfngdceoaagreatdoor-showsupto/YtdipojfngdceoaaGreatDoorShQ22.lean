/- Steps on the way: LawKept, LawLooked, LawStep. -/
import Derived.Test.YtdipojfngdceoaaGreatDoorShQ01
import Derived.Test.YtdipojfngdceoaaGreatDoorShQ02
import Derived.Test.YtdipojfngdceoaaGreatDoorShQ09
import Derived.Test.YtdipojfngdceoaaGreatDoorShQ17
import Derived.Test.YtdipojfngdceoaaGreatDoorShQ19
import Derived.Test.YtdipojfngdceoaaGreatDoorShQ20
import Derived.Test.YtdipojfngdceoaaGreatDoorShQ21
import Derived.Test.YtdipojfngdceoaaGreatDoorProg
import Derived.WalkKit
import Derived.WalkSpells
import Derived.WalkLawsBesides
import Derived.BigQuiet
import Derived.Deep.QuietTactic
namespace Go.Proofs.YtdipojfngdceoaaGreatDoor
open Go.RowKit
namespace Dp
def digitN (n i : Nat) : Nat := 1 + n / 250 ^ (i % 3) % 250
def SliceOf (w : World) (v : Value) (n : Nat) (f : Nat → Value) : Prop :=
 ∃ b o ad cap, v = .slice ad n cap ∧ n ≤ 16777216 ∧ (0 < n → ad = some ⟨b, o, none⟩) ∧ ∀ k, k < n → w.cell? ⟨b, o + k, none⟩ = some (f k)
def ListsOf (w : World) (v : Value) (f : Nat → Nat → Value) : Prop :=
 ∃ n g, SliceOf w v n g ∧ ∀ i, i < n → ∃ m, SliceOf w (g i) m (f i)
theorem digit_bd (n i : Nat) : 1 ≤ digitN n i ∧ digitN n i ≤ 250 := by unfold digitN; omega
end Dp
set_option maxHeartbeats 400000 in
theorem lawDigit (n i : Nat) (w : World) (hn : n ≤ 16777216) (hi : i ≤ 16777216) :
  Calls Tryz.prog 67 #[.int .i64 n, .int .i64 i] w fun e w' => e = .returned (.int .u8 (Dp.digitN n i)) ∧ w' = w := by
 go_enter Tryz.func67, Tryz.ntmps67
 go_wp2
 go_loop [0, 5] (fun a k => ∃ j : Nat, j ≤ i % 3 ∧ k = .int .i64 ((i % 3 - j : Nat) : Int) ∧ a = .int .i64 ((n / 250 ^ j : Nat) : Int)) (fun _ k => (intOf k).toNat)
 case atStart => exact ⟨0, Nat.zero_le _, by simp, by simp⟩
 case round =>
  obtain ⟨j, hj, rfl, rfl⟩ := hrel
  have hb : n / 250 ^ j ≤ n := Nat.div_le_self _ _
  by_cases hlt : j < i % 3
  ·have HD : Hid (((n / 250 ^ (j + 1) : Nat) : Int) = ((n / 250 ^ j : Nat) : Int) / 250) := by
    unfold Hid; rw [Nat.pow_succ, ← Nat.div_div_eq_div_mul]; rfl
   have HK : Hid (((i % 3 - (j + 1) : Nat) : Int) = ((i % 3 - j : Nat) : Int) - 1) := by unfold Hid; omega
   have hpos : 0 < i % 3 - j := by omega
   have hsm : i % 3 - j ≤ 3 := by omega
   generalize i % 3 - j = r at *
   generalize n / 250 ^ j = q at *
   go_wp2
   go_round
   case rel => exact ⟨j + 1, by omega, by rw [HK.out], by rw [HD.out]⟩
   case measure => simp [intOf]; omega
  ·obtain rfl : j = i % 3 := by omega
   have hz : i % 3 - i % 3 = 0 := by omega
   rw [hz]
   have HE : Hid ((Dp.digitN n i : Int) = 1 + ((n / 250 ^ (i % 3) : Nat) : Int) % 250) := by unfold Hid Dp.digitN; omega
   generalize n / 250 ^ (i % 3) = q at *
   go_wp2
   go_ret
   exact ⟨Dp.ret_int (by rw [HE.out]), rfl⟩
namespace Dp
def turnedBytes : List UInt8 := [116, 117, 114, 110, 101, 100]
def TurnedLists (w : World) (v : Value) : Prop :=
 ∃ n g, SliceOf w v n g ∧ ∀ i, i < n → ∃ m h, SliceOf w (g i) m h ∧ ∀ k, k < m → ∃ b o cap, h k = .slice (some ⟨b, o, none⟩) 6 cap ∧ ∀ j (hj : j < turnedBytes.length), w.cell? ((⟨b, o, none⟩ : Addr).add j) = some (.int .u8 (turnedBytes[j].toNat : Int))
end Dp
set_option maxRecDepth 100000 in
set_option maxHeartbeats 1000000 in
theorem lawOthers (w : World) (W : Nat) (v0 v1 v2 v3 v4 v5 : Value) (hW : Dp.Row w W 32 [v0, v1, v2, v3, v4, v5]) (h4 : Dp.ListsOf w v4 (fun _ k => .bool ((k : Int) % 2 == 0))) (h5 : Dp.TurnedLists w v5) :
  Calls Tryz.prog 68 #[.pointer (some ⟨W, 0, none⟩)] w fun e w' => e = .returned (.bool true) ∧ w' = w := by
 obtain ⟨n4, g4, ⟨b4, o4, ad4, cap4, rfl, hn4, hne4, hc4⟩, hi4⟩ := h4
 obtain ⟨n5, g5, ⟨b5, o5, ad5, cap5, rfl, hn5, hne5, hc5⟩, hi5⟩ := h5
 have c4 : w.cell? ⟨W, 4, none⟩ = some (.slice ad4 n4 cap4) := hW.cellAt 4 (by simp)
 have c5 : w.cell? ⟨W, 5, none⟩ = some (.slice ad5 n5 cap5) := hW.cellAt 5 (by simp)
 have HC4 := Hid.mk_ hc4
 have HC5 := Hid.mk_ hc5
 have HI4 := Hid.mk_ hi4
 have HI5 := Hid.mk_ hi5
 clear hc4 hc5 hi4 hi5 hW
 go_enter Tryz.func68, Tryz.ntmps68
 go_wp2
 go_loop [3, 4] (fun i _ => ∃ k : Nat, k ≤ n4 ∧ i = .int .i64 k) (fun i _ => n4 - (intOf i).toNat)
 case atStart => exact ⟨0, Nat.zero_le _, rfl⟩
 case round =>
  obtain ⟨k, hk, rfl⟩ := hrel
  by_cases hlt : k < n4
  ·obtain rfl := hne4 (by omega)
   have ck := HC4.out k hlt
   obtain ⟨m, bi, oi, adi, capi, hgi, hm, hnei, hci⟩ := HI4.out k hlt
   rw [hgi] at ck
   have HCI := Hid.mk_ hci
   clear hgi hci
   go_wp2
   go_loop [4] (fun i => ∃ j : Nat, j ≤ m ∧ i = .int .i64 j) (fun i => m - (intOf i).toNat)
   case atStart => exact ⟨0, Nat.zero_le _, rfl⟩
   case round =>
    obtain ⟨j, hj, rfl⟩ := hrel
    by_cases hlt2 : j < m
    ·obtain rfl := hnei (by omega)
     have cj := HCI.out j hlt2
     go_wp2
     go_round
     case rel => exact ⟨j + 1, by omega, by go_num⟩
     case measure => simp [intOf]; omega
    ·go_wp2
     go_round
     case rel => exact ⟨k + 1, by omega, by go_num⟩
     case measure => simp [intOf]; omega
  ·skip
   go_wp2
   go_loop [5, 6] (fun i _ => ∃ k : Nat, k ≤ n5 ∧ i = .int .i64 k) (fun i _ => n5 - (intOf i).toNat)
   case atStart => exact ⟨0, Nat.zero_le _, rfl⟩
   case round =>
    obtain ⟨k5, hk5, rfl⟩ := hrel
    by_cases hlt5 : k5 < n5
    ·obtain rfl := hne5 (by omega)
     have ck := HC5.out k5 hlt5
     obtain ⟨m, h, ⟨bi, oi, adi, capi, hgi, hm, hnei, hci⟩, hall⟩ := HI5.out k5 hlt5
     rw [hgi] at ck
     have HCI := Hid.mk_ hci
     have HALL := Hid.mk_ hall
     clear hgi hci hall
     go_wp2
     go_loop [6] (fun i => ∃ j : Nat, j ≤ m ∧ i = .int .i64 j) (fun i => m - (intOf i).toNat)
     case atStart => exact ⟨0, Nat.zero_le _, rfl⟩
     case round =>
      obtain ⟨j, hj, rfl⟩ := hrel
      by_cases hlt2 : j < m
      ·obtain rfl := hnei (by omega)
       have cj := HCI.out j hlt2
       obtain ⟨bs, os, caps, hh, hbs⟩ := HALL.out j hlt2
       rw [hh] at cj
       have hconv := run_convert_bytes_back (P := Tryz.prog) w 78 9 5 ⟨bs, os, none⟩ caps Dp.turnedBytes Tryz.underlying78 Tryz.underlying5 Tryz.underlying9 hbs
       have hl6 : Dp.turnedBytes.length = 6 := rfl
       have ht : (⟨Dp.turnedBytes.toArray⟩ : ByteArray) = ⟨#[116, 117, 114, 110, 101, 100]⟩ := rfl
       rw [hl6, ht] at hconv
       clear hh hbs hl6 ht
       go_wp2
       go_round
       case rel => exact ⟨j + 1, by omega, by go_num⟩
       case measure => simp [intOf]; omega
      ·go_wp2
       go_round
       case rel => exact ⟨k5 + 1, by omega, by go_num⟩
       case measure => simp [intOf]; omega
    ·go_wp2
     go_ret
     exact ⟨rfl, rfl⟩
set_option maxRecDepth 100000 in
set_option maxHeartbeats 2000000 in
theorem lawKept (w : World) (W : Nat) (v0 v1 v2 v3 v4 v5 : Value) (hW : Dp.Row w W 32 [v0, v1, v2, v3, v4, v5]) (h1 : Dp.ListsOf w v1 (fun i k => .int .u8 (Dp.digitN (i / 4 * 4) k : Int))) (h2 : Dp.ListsOf w v2 (fun _ _ => .int .u8 251)) (h3 : Dp.ListsOf w v3 (fun _ _ => .int .i64 (-7)))
  (h4 : Dp.ListsOf w v4 (fun _ k => .bool ((k : Int) % 2 == 0))) (h5 : Dp.TurnedLists w v5) :
  Calls Tryz.prog 33 #[.pointer (some ⟨W, 0, none⟩)] w fun e w' => e = .returned (.bool true) ∧ ∃ n, w' = w.drewN n := by
 have HOTH : Hid (∀ n, Calls Tryz.prog 68 #[.pointer (some ⟨W, 0, none⟩)] (w.drewN n) fun e w' => e = .returned (.bool true) ∧ w' = w.drewN n) := fun n => lawOthers (w.drewN n) W v0 v1 v2 v3 v4 v5 hW h4 h5
 clear h4 h5
 obtain ⟨n1, g1, ⟨b1, o1, ad1, cap1, rfl, hn1, hne1, hc1⟩, hi1⟩ := h1
 obtain ⟨n2, g2, ⟨b2, o2, ad2, cap2, rfl, hn2, hne2, hc2⟩, hi2⟩ := h2
 obtain ⟨n3, g3, ⟨b3, o3, ad3, cap3, rfl, hn3, hne3, hc3⟩, hi3⟩ := h3
 have c1 : w.cell? ⟨W, 1, none⟩ = some (.slice ad1 n1 cap1) := hW.cellAt 1 (by simp)
 have c2 : w.cell? ⟨W, 2, none⟩ = some (.slice ad2 n2 cap2) := hW.cellAt 2 (by simp)
 have c3 : w.cell? ⟨W, 3, none⟩ = some (.slice ad3 n3 cap3) := hW.cellAt 3 (by simp)
 have HC1 := Hid.mk_ hc1
 have HC2 := Hid.mk_ hc2
 have HC3 := Hid.mk_ hc3
 have HI1 := Hid.mk_ hi1
 have HI2 := Hid.mk_ hi2
 have HI3 := Hid.mk_ hi3
 clear hc1 hc2 hc3 hi1 hi2 hi3 hW
 go_enter Tryz.func33, Tryz.ntmps33
 go_wp2
 go_loopw [3, 4] (fun i _ wr => ∃ k q : Nat, k ≤ n1 ∧ i = .int .i64 k ∧ wr = w.drewN q) (fun i _ _ => n1 - (intOf i).toNat)
 case atStart => exact ⟨0, 0, Nat.zero_le _, rfl, rfl⟩
 case round =>
  obtain ⟨k, q, hk, rfl, rfl⟩ := hrel
  by_cases hlt : k < n1
  ·obtain rfl := hne1 (by omega)
   have ck := HC1.out k hlt
   obtain ⟨m, bi, oi, adi, capi, hgi, hm, hnei, hci⟩ := HI1.out k hlt
   rw [hgi] at ck
   have HCI := Hid.mk_ hci
   clear hgi hci
   go_wp2
   go_loopw [4] (fun i wr => ∃ j q : Nat, j ≤ m ∧ i = .int .i64 j ∧ wr = w.drewN q) (fun i _ => m - (intOf i).toNat)
   case atStart => exact ⟨0, q, Nat.zero_le _, rfl, rfl⟩
   case round =>
    obtain ⟨j, q2, hj, rfl, rfl⟩ := hrel
    by_cases hlt2 : j < m
    ·obtain rfl := hnei (by omega)
     have cj := HCI.out j hlt2
     have hdb := Dp.digit_bd (k / 4 * 4) j
     have HDG : Hid (∀ n, Calls Tryz.prog 67 #[.int .i64 ((k : Int) / 4 * 4), .int .i64 (j : Int)] (w.drewN (q2 + n)) fun e w' => e = .returned (.int .u8 (Dp.digitN (k / 4 * 4) j)) ∧ ∃ n, w' = w.drewN (q2 + n)) := by
      intro n
      have hwr : (k : Int) / 4 * 4 = ((k / 4 * 4 : Nat) : Int) := by omega
      rw [hwr]
      exact (lawDigit _ _ _ (by omega) (by omega)).mono fun _ _ ⟨he, hw⟩ => ⟨he, n, hw⟩
     go_wp2
     go_quiet ((go_at_call 67; exact HDG.out _))
     go_wp2
     go_roundw
     case rel => exact ⟨j + 1, _, by omega, by go_num, rfl⟩
     case measure => simp [intOf]; omega
    ·go_wp2
     go_roundw
     case rel => exact ⟨k + 1, q2, by omega, by go_num, rfl⟩
     case measure => simp [intOf]; omega
  ·go_wp2
   go_loopw [5, 6] (fun i _ wr => ∃ k q : Nat, k ≤ n2 ∧ i = .int .i64 k ∧ wr = w.drewN q) (fun i _ _ => n2 - (intOf i).toNat)
   case atStart => exact ⟨0, q, Nat.zero_le _, rfl, rfl⟩
   case round =>
    clear c1 HC1 HI1
    obtain ⟨k, q, hk, rfl, rfl⟩ := hrel
    by_cases hlt : k < n2
    ·obtain rfl := hne2 (by omega)
     have ck := HC2.out k hlt
     obtain ⟨m, bi, oi, adi, capi, hgi, hm, hnei, hci⟩ := HI2.out k hlt
     rw [hgi] at ck
     have HCI := Hid.mk_ hci
     clear hgi hci
     go_wp2
     go_loopw [6] (fun i wr => ∃ j q : Nat, j ≤ m ∧ i = .int .i64 j ∧ wr = w.drewN q) (fun i _ => m - (intOf i).toNat)
     case atStart => exact ⟨0, q, Nat.zero_le _, rfl, rfl⟩
     case round =>
      obtain ⟨j, q2, hj, rfl, rfl⟩ := hrel
      by_cases hlt2 : j < m
      ·obtain rfl := hnei (by omega)
       have cj := HCI.out j hlt2
       go_wp2
       go_roundw
       case rel => exact ⟨j + 1, q2, by omega, by go_num, rfl⟩
       case measure => simp [intOf]; omega
      ·go_wp2
       go_roundw
       case rel => exact ⟨k + 1, q2, by omega, by go_num, rfl⟩
       case measure => simp [intOf]; omega
    ·go_wp2
     go_loopw [7, 8] (fun i _ wr => ∃ k q : Nat, k ≤ n3 ∧ i = .int .i64 k ∧ wr = w.drewN q) (fun i _ _ => n3 - (intOf i).toNat)
     case atStart => exact ⟨0, q, Nat.zero_le _, rfl, rfl⟩
     case round =>
      clear c2 HC2 HI2
      obtain ⟨k, q, hk, rfl, rfl⟩ := hrel
      by_cases hlt : k < n3
      ·obtain rfl := hne3 (by omega)
       have ck := HC3.out k hlt
       obtain ⟨m, bi, oi, adi, capi, hgi, hm, hnei, hci⟩ := HI3.out k hlt
       rw [hgi] at ck
       have HCI := Hid.mk_ hci
       clear hgi hci
       go_wp2
       go_loopw [8] (fun i wr => ∃ j q : Nat, j ≤ m ∧ i = .int .i64 j ∧ wr = w.drewN q) (fun i _ => m - (intOf i).toNat)
       case atStart => exact ⟨0, q, Nat.zero_le _, rfl, rfl⟩
       case round =>
        obtain ⟨j, q2, hj, rfl, rfl⟩ := hrel
        by_cases hlt2 : j < m
        ·obtain rfl := hnei (by omega)
         have cj := HCI.out j hlt2
         go_wp2
         go_roundw
         case rel => exact ⟨j + 1, q2, by omega, by go_num, rfl⟩
         case measure => simp [intOf]; omega
        ·go_wp2
         go_roundw
         case rel => exact ⟨k + 1, q2, by omega, by go_num, rfl⟩
         case measure => simp [intOf]; omega
      ·go_wp2_with fail
       refine (HOTH.out q).mono ?_
       rintro e w2 ⟨rfl, rfl⟩
       go_wp2
       go_ret
       exact ⟨rfl, q, rfl⟩
namespace Dp
structure Side (w : World) (s b p g : Nat) (G : Nat → Prop) (vs vr : Value) (m : Mach) : Prop where
 row : Row w s 70 [.pointer (some ⟨b, 0, none⟩), .pointer (some ⟨p, 0, none⟩)]
 prog : ProgM w b G vs m
 ref : RefM w p g vr m
 apart : ∀ q, G q → q ≠ p ∧ q ≠ g
theorem Side.keep {S : Nat → Prop} {w w' : World} {s b p g : Nat} {G : Nat → Prop} {vs vr : Value} {m : Mach} (h : Side w s b p g G vs vr m) (k : Keeps S w w') (hs : ¬ S s) (hb : ¬ S b) (hp : ¬ S p) (hg : ¬ S g) (hG : ∀ q, G q → ¬ S q) (hv : ∀ q, vr.ownBlock = some q → ¬ S q) : Side w' s b p g G vs vr m :=
 ⟨h.row.keep k hs, h.prog.keep k hb hG, h.ref.keep k hp hg hv, h.apart⟩
theorem Side.still {w w' : World} {s b p g : Nat} {G : Nat → Prop} {vs vr : Value} {m : Mach} (h : Side w s b p g G vs vr m) (k : Keeps (fun _ => False) w w') : Side w' s b p g G vs vr m :=
 h.keep k (fun e => e) (fun e => e) (fun e => e) (fun e => e) (fun _ _ e => e) (fun _ _ e => e)
theorem RefM.rows {w : World} {p g : Nat} {vs : Value} {m : Mach} (h : RefM w p g vs m) : (∃ cs, Row w p 113 cs) ∧ ∃ cs, Row w g 3 cs := by
 obtain ⟨r, stale, tail, h1, h2, _⟩ := h.ex
 exact ⟨⟨_, h1⟩, ⟨_, h2⟩⟩
theorem Side.ne {w : World} {s b p g : Nat} {G : Nat → Prop} {vs vr : Value} {m : Mach} (h : Side w s b p g G vs vr m) : s ≠ b ∧ s ≠ p ∧ s ≠ g ∧ b ≠ p ∧ b ≠ g ∧ p ≠ g ∧ (∀ q, vr.ownBlock = some q → q ≠ b ∧ q ≠ p ∧ q ≠ g ∧ q ≠ s) := by
 obtain ⟨⟨c1, r1⟩, ⟨c2, r2⟩⟩ := h.ref.rows
 have r0 := h.prog.row
 have rs := h.row
 exact ⟨rs.ne r0 (by decide), rs.ne r1 (by decide), rs.ne r2 (by decide), r0.ne r1 (by decide), r0.ne r2 (by decide), r1.ne r2 (by decide), fun q hq => ⟨h.ref.src.ne r0 (by decide) q hq, h.ref.src.ne r1 (by decide) q hq, h.ref.src.ne r2 (by decide) q hq, h.ref.src.ne rs (by decide) q hq⟩⟩
theorem Side.cells {w : World} {s b p g : Nat} {G : Nat → Prop} {vs vr : Value} {m : Mach} (h : Side w s b p g G vs vr m) : w.cell? ⟨s, 0, none⟩ = some (.pointer (some ⟨b, 0, none⟩)) ∧ w.cell? ⟨s, 1, none⟩ = some (.pointer (some ⟨p, 0, none⟩)) :=
 ⟨h.row.cell 0, h.row.cell 1⟩
end Dp
set_option maxRecDepth 100000 in
set_option maxHeartbeats 1000000 in
theorem lawLooked (w : World) (s b p g : Nat) (G : Nat → Prop) (vs vr : Value) (m : Dp.Mach) (h : Dp.Side w s b p g G vs vr m) :
  Calls Tryz.prog 59 #[.pointer (some ⟨s, 0, none⟩)] w fun e w' => e = .returned (.bool true) ∧ Dp.Keeps (fun k => k = p) w w' ∧ Dp.Side w' s b p g G vs vr m := by
 obtain ⟨c0, c1⟩ := h.cells
 obtain ⟨n1, n2, n3, n4, n5, n6, n7⟩ := h.ne
 have hlen := h.prog.ok.s.len
 have hok := h.prog.ok
 go_enter Tryz.func59, Tryz.ntmps59
 go_wp2_with fail
 refine (progMLook w b G vs m h.prog).mono ?_
 rintro e w1 ⟨rfl, k1⟩
 have h1 := h.still k1
 obtain ⟨S, R, hS, hR⟩ : ∃ S : Dp.Cs, ∃ R : Int, S = m.s ∧ R = Dp.root m.cells := ⟨_, _, rfl, rfl⟩
 rw [← hS, ← hR]
 have HSR := Hid.mk_ (And.intro hS hR)
 have hSl : S.regs.length = 8 := by rw [hS]; exact hlen
 clear hS hR h
 have HM : Hid ((Dp.stCells S R).length = 13) := Dp.stCells_length _ _ hSl
 go_wp2_with (refine Dp.wpList_alloc_row rfl 74 rfl _ zeroState ?_)
 intro w2 r2 z2 k2
 have HR2 := Hid.mk_ (Dp.row_nil r2)
 go_wp2_with (refine Dp.wpList_store_in rfl 74 _ _ rfl w1.heap.size 0 rfl (Dp.stCells S R) rfl 74 [] _ [] HR2.out rfl (by rw [HM.out]; rfl) (by rw [sizeState, HM.out]) (Dp.stCells_one _ _) ?_)
 intro w3 r3 z3 k3
 have r3' : Dp.Row w3 w1.heap.size 74 (Dp.stCells S R) := by simpa using r3
 have k13 : Dp.Keeps (fun _ => False) w1 w3 := k2.next k3 (fun k hk e => by omega)
 have h3 := h1.still k13
 obtain ⟨d0, d1⟩ := h3.cells
 clear r2 r3 HR2 k2 k3 z2 z3 c0 c1
 go_wp2_with fail
 refine (refNow w3 p g vr m h3.ref).mono ?_
 rintro e w4 ⟨rfl, k4, m4⟩
 rw [← HSR.out.1, ← HSR.out.2]
 have hpw : p < w1.heap.size := h1.ref.lt.1
 have r4 := r3'.keep k4 (show ¬ w1.heap.size = p by omega)
 have h4 : Dp.Side w4 s b p g G vs vr m := ⟨h3.row.keep k4 n2, h3.prog.keep k4 n4 (fun q hq => (h3.apart q hq).1), m4, h3.apart⟩
 have kk4 : Dp.Keeps (fun k => k = p) w w4 := ((k1.trans k13).mono (fun _ _ e => e.elim)).trans k4
 clear r3' h3 d0 d1 k4 m4
 go_wp2_with (refine Dp.wpList_alloc_row rfl 74 rfl _ zeroState ?_)
 intro w5 r5 z5 k5
 have HR5 := Hid.mk_ (Dp.row_nil r5)
 have hw14 : w1.heap.size < w4.heap.size := r4.lt
 go_wp2_with (refine Dp.wpList_store_in rfl 74 _ _ rfl w4.heap.size 0 rfl (Dp.stCells S R) rfl 74 [] _ [] HR5.out rfl (by rw [HM.out]; rfl) (by rw [sizeState, HM.out]) (Dp.stCells_one _ _) ?_)
 intro w6 r6 z6 k6
 have r6' : Dp.Row w6 w4.heap.size 74 (Dp.stCells S R) := by simpa using r6
 have k46 : Dp.Keeps (fun _ => False) w4 w6 := k5.next k6 (fun k hk e => by omega)
 have r7 := r4.keep k46 (fun e => e)
 have H6 := Hid.mk_ (h4.still k46)
 have HK6 := Hid.mk_ (kk4.next k46 (fun _ _ e => e.elim))
 clear r5 r6 HR5 k5 k6 z5 z6 h4 r4 kk4 k13 k1
 obtain ⟨pc, st, co, ov, regs⟩ := S
 obtain ⟨r0, r1, r2, r3, r4, r5, r6, r7', rfl⟩ := Dp.list8 hSl
 have a0 := r7.cell 0
 have a1 := r7.cell 1
 have a2 := r7.cell 2
 have a3 := r7.cell 3
 have a4 := r7.cell 4
 have a5 := r7.cell 5
 have a6 := r7.cell 6
 have a7 := r7.cell 7
 have a8 := r7.cell 8
 have a9 := r7.cell 9
 have a10 := r7.cell 10
 have a11 := r7.cell 11
 have a12 := r7.cell 12
 have b0 := r6'.cell 0
 have b1 := r6'.cell 1
 have b2 := r6'.cell 2
 have b3 := r6'.cell 3
 have b4 := r6'.cell 4
 have b5 := r6'.cell 5
 have b6 := r6'.cell 6
 have b7 := r6'.cell 7
 have b8 := r6'.cell 8
 have b9 := r6'.cell 9
 have b10 := r6'.cell 10
 have b11 := r6'.cell 11
 have b12 := r6'.cell 12
 simp only [Dp.stCells, Dp.regCells, List.map_cons, List.map_nil, List.cons_append, List.nil_append, List.getElem?_cons_zero, List.getElem?_cons_succ] at a0 a1 a2 a3 a4 a5 a6 a7 a8 a9 a10 a11 a12 b0 b1 b2 b3 b4 b5 b6 b7 b8 b9 b10 b11 b12
 clear r7 r6'
 have heq : ∀ wx, (Op.equalIn 10000 72 (.agg #[.int .i64 r0, .int .i64 r1, .int .i64 r2, .int .i64 r3, .int .i64 r4, .int .i64 r5, .int .i64 r6, .int .i64 r7']) (.agg #[.int .i64 r0, .int .i64 r1, .int .i64 r2, .int .i64 r3, .int .i64 r4, .int .i64 r5, .int .i64 r6, .int .i64 r7'])).run Tryz.prog wx = .ok true wx := fun wx => equalRegs [r0, r1, r2, r3, r4, r5, r6, r7'] rfl wx
 go_wp2
 go_ret
 exact ⟨rfl, HK6.out, H6.out⟩
namespace Dp
def opCells (kind n : Int) (vA : Value) (St : ByteArray) (which : Bool) : List Value := [.int .i64 kind, .int .i64 n, vA, .string St, .bool which]
def applyOp (m : Mach) (kind n : Int) : Mach := if kind = 1 then m.step.1 else if kind = 2 ∧ 0 ≤ n ∧ n ≤ 100000 then (Mach.run n.toNat m).1 else m
theorem Row.ops {w : World} {g : Nat} {e : TypeId} {kind n : Int} {vA : Value} {St : ByteArray} {which : Bool} (h : Row w g e (opCells kind n vA St which)) : w.cell? ⟨g, 0, none⟩ = some (.int .i64 kind) ∧ w.cell? ⟨g, 1, none⟩ = some (.int .i64 n) ∧ w.cell? ⟨g, 2, none⟩ = some vA ∧ w.cell? ⟨g, 3, none⟩ = some (.string St) ∧ w.cell? ⟨g, 4, none⟩ = some (.bool which) := by
 refine ⟨?_, ?_, ?_, ?_, ?_⟩ <;> (rw [h.cell]; rfl)
theorem Side.then {w w1 w2 : World} {s b p g : Nat} {G : Nat → Prop} {vs vr : Value} {m m' : Mach} (h : Side w s b p g G vs vr m) (k1 : Keeps (fun k => k = b) w w1) (h1 : ProgM w1 b G vs m') (k2 : Keeps (fun k => k = p ∨ k = g) w1 w2) (h2 : RefM w2 p g vr m') : Side w2 s b p g G vs vr m' := by
 obtain ⟨n1, n2, n3, n4, n5, n6, n7⟩ := h.ne
 refine ⟨(h.row.keep k1 n1).keep k2 (by omega), h1.keep k2 (by omega) (fun q hq e => ?_), h2, h.apart⟩
 have := h.apart q hq
 omega
theorem Side.refOn {w w1 : World} {s b p g : Nat} {G : Nat → Prop} {vs vr : Value} {m : Mach} (h : Side w s b p g G vs vr m) (k1 : Keeps (fun k => k = b) w w1) : RefM w1 p g vr m := by
 obtain ⟨n1, n2, n3, n4, n5, n6, n7⟩ := h.ne
 exact h.ref.keep k1 (fun e => n4 e.symm) (fun e => n5 e.symm) (fun q hq e => (n7 q hq).1 e)
end Dp
set_option maxRecDepth 100000 in
set_option maxHeartbeats 1000000 in
theorem lawStep1 (w : World) (W s b p g : Nat) (G : Nat → Prop) (vs vr : Value) (m : Dp.Mach) (kind n : Int) (vA : Value) (St : ByteArray) (which : Bool) (h : Dp.Side w s b p g G vs vr m) (hk : kind = 1) :
  Calls Tryz.prog 32 #[.pointer (some ⟨W, 0, none⟩), .pointer (some ⟨s, 0, none⟩), .agg (Dp.opCells kind n vA St which).toArray] w fun e w' => e = .returned (.bool true) ∧ Dp.Keeps (fun k => k = b ∨ k = p ∨ k = g) w w' ∧ Dp.Side w' s b p g G vs vr (Dp.applyOp m kind n) := by
 obtain ⟨n1, n2, n3, n4, n5, n6, n7⟩ := h.ne
 go_enter Tryz.func32, Tryz.ntmps32
 go_wp2_with (refine Dp.wpList_box_row rfl 40 _ rfl (Dp.opCells kind n vA St which) rfl ?_)
 intro w1 r1 z1 k1
 have h1 := h.still k1
 clear h
 subst hk
 obtain ⟨o0, _, _, _, _⟩ := r1.ops
 obtain ⟨c0, c1⟩ := h1.cells
 go_wp2_with fail
 refine (progMStep w1 b G vs m h1.prog).mono ?_
 rintro e w2 ⟨rfl, k2, p2⟩
 have c1' : w2.cell? ⟨s, 1, none⟩ = some (.pointer (some ⟨p, 0, none⟩)) := (h1.row.keep k2 n1).cell 1
 have HRF := Hid.mk_ (h1.refOn k2)
 clear c0 c1 o0
 go_wp2_with fail
 refine (refStep w2 p g vr m HRF.out).mono ?_
 rintro e w3 ⟨rfl, k3, m3⟩
 have HSS : Hid (Dp.Side w3 s b p g G vs vr (Dp.applyOp m 1 n)) := h1.then k2 p2 k3 m3
 have HKK : Hid (Dp.Keeps (fun k => k = b ∨ k = p ∨ k = g) w w3) := ((k1.mono (fun _ _ e => e.elim)).next k2 (fun _ _ e => .inl e)).next k3 (fun _ _ e => .inr e)
 generalize m.step.2 = er at *
 clear c1'
 go_wp2
 go_ret
 exact ⟨rfl, HKK.out, HSS.out⟩
set_option maxRecDepth 100000 in
set_option maxHeartbeats 1000000 in
theorem lawStep2 (w : World) (W s b p g : Nat) (G : Nat → Prop) (vs vr : Value) (m : Dp.Mach) (kind n : Int) (vA : Value) (St : ByteArray) (which : Bool) (h : Dp.Side w s b p g G vs vr m) (hk : kind = 2) (N : Nat) (hnN : n = N) (hN : N ≤ 100000) :
  Calls Tryz.prog 32 #[.pointer (some ⟨W, 0, none⟩), .pointer (some ⟨s, 0, none⟩), .agg (Dp.opCells kind n vA St which).toArray] w fun e w' => e = .returned (.bool true) ∧ Dp.Keeps (fun k => k = b ∨ k = p ∨ k = g) w w' ∧ Dp.Side w' s b p g G vs vr (Dp.applyOp m kind n) := by
 obtain ⟨n1, n2, n3, n4, n5, n6, n7⟩ := h.ne
 go_enter Tryz.func32, Tryz.ntmps32
 go_wp2_with (refine Dp.wpList_box_row rfl 40 _ rfl (Dp.opCells kind n vA St which) rfl ?_)
 intro w1 r1 z1 k1
 have h1 := h.still k1
 clear h
 subst hk
 subst hnN
 obtain ⟨o0, _, _, _, _⟩ := r1.ops
 have qx : ∀ wx, Dp.Keeps (fun _ => False) w1 wx → wx.cell? ⟨s, 0, none⟩ = some (.pointer (some ⟨b, 0, none⟩)) := fun wx kx => (h1.row.keep kx (fun e => e)).cell 0
 have qn : ∀ wx, Dp.Keeps (fun _ => False) w1 wx → wx.cell? ⟨w.heap.size, 1, none⟩ = some (.int .i64 (N : Int)) := fun wx kx => ((r1.keep kx (fun e => e)).ops).2.1
 have hS0 : Dp.Keeps (fun _ => False) w1 w1.drew := (Dp.Keeps.refl _ _).drew
 go_wp2
 clear o0
 refine Dp.wp_region_L (fun wx => Dp.Keeps (fun _ => False) w1 wx) 6 mixedP ?_
 refine' Dp.tj 0 hS0 ?_
 simp only [Act.put, Dp.tks]
 refine' Dp.tj 1 hS0 ?_
 simp only [Act.put, Dp.tks]
 refine' Dp.tj 2 hS0 ?_
 simp only [Act.put, Dp.tks]
 refine' Dp.tj 3 hS0 ?_
 simp only [Act.put, Dp.tks]
 refine' Dp.tj 4 hS0 ?_
 simp only [Act.put, Dp.tks]
 refine' Dp.tj 5 hS0 ?_
 simp only [Act.put, Dp.tks]
 refine Dp.wpAnyL_one 6 rfl (by kernel_rfl) (by rfl) (fun K hK => ?_)
 go_simp
 refine (progMRun w1.drew b G vs m (h1.still hS0).prog N hN).mono ?_
 rintro e w2 ⟨rfl, k2, p2⟩
 refine hK _ _ ⟨fun h => absurd h (Nat.lt_irrefl _), ?_⟩
 clear hK K
 refine Dp.wpAnyL_rest (by kernel_rfl) ?_
 refine' Dp.wpAny_pure 7 rfl (by kernel_rfl) (fun _ _ _ h => h) (.inl ⟨by rfl, ?hp7⟩) ?pest7
 case hp7 => intro wx; go_simp; try with_reducible rfl
 simp only [Act.put, Dp.tks]
 refine' Dp.wpAny_pure 8 rfl (by kernel_rfl) (fun _ _ _ h => h) (.inl ⟨by rfl, ?hp8⟩) ?pest8
 case hp8 => intro wx; go_simp; try with_reducible rfl
 simp only [Act.put, Dp.tks]
 refine' Dp.wpAny_pure 9 rfl (by kernel_rfl) (fun _ _ _ h => h) (.inl ⟨by rfl, ?hp9⟩) ?pest9
 case hp9 => intro wx; go_simp; try with_reducible rfl
 simp only [Act.put, Dp.tks]
 refine' Dp.wpAny_pure 10 rfl (by kernel_rfl) (fun _ _ _ h => h) (.inl ⟨by rfl, ?hp10⟩) ?pest10
 case hp10 => intro wx; go_simp; try with_reducible rfl
 simp only [Act.put, Dp.tks]
 refine' Dp.wpAny_pure 11 rfl (by kernel_rfl) (fun _ _ _ h => h) (.inl ⟨by rfl, ?hp11⟩) ?pest11
 case hp11 => intro wx; go_simp; try with_reducible rfl
 simp only [Act.put, Dp.tks]
 refine wpAny_done (by kernel_rfl) ?_ _
 have h1d := h1.still hS0
 have c1 : ∀ wx, Dp.Keeps (fun _ => False) w2 wx → wx.cell? ⟨s, 1, none⟩ = some (.pointer (some ⟨p, 0, none⟩)) := fun wx kx => ((h1d.row.keep k2 n1).keep kx (fun e => e)).cell 1
 have hwb : ¬ w.heap.size = b := fun e => by have := h1.prog.row; exact (r1.ne this (by decide)) e
 have cn : ∀ wx, Dp.Keeps (fun _ => False) w2 wx → wx.cell? ⟨w.heap.size, 1, none⟩ = some (.int .i64 (N : Int)) := fun wx kx => (((r1.keep hS0 (fun e => e)).keep k2 hwb).keep kx (fun e => e)).ops.2.1
 have HRF := Hid.mk_ (h1d.refOn k2)
 have hS2 : Dp.Keeps (fun _ => False) w2 w2.drew := (Dp.Keeps.refl _ _).drew
 clear qx qn
 go_wp2
 refine Dp.wp_region_L (fun wx => Dp.Keeps (fun _ => False) w2 wx) 6 mixedP ?_
 refine' Dp.tj 0 hS2 ?_
 simp only [Act.put, Dp.tks]
 refine' Dp.tj 1 hS2 ?_
 simp only [Act.put, Dp.tks]
 refine' Dp.tj 2 hS2 ?_
 simp only [Act.put, Dp.tks]
 refine' Dp.tj 3 hS2 ?_
 simp only [Act.put, Dp.tks]
 refine' Dp.tj 4 hS2 ?_
 simp only [Act.put, Dp.tks]
 refine' Dp.tj 5 hS2 ?_
 simp only [Act.put, Dp.tks]
 refine Dp.wpAnyL_one 6 rfl (by kernel_rfl) (by rfl) (fun K hK => ?_)
 go_simp
 refine (refRun w2.drew p g vr m (HRF.out.keep hS2 (fun e => e) (fun e => e) (fun _ _ e => e)) N hN).mono ?_
 rintro e w3 ⟨rfl, k3, m3⟩
 refine hK _ _ ⟨fun h => absurd h (Nat.lt_irrefl _), ?_⟩
 clear hK K
 refine Dp.wpAnyL_rest (by kernel_rfl) ?_
 refine' Dp.wpAny_pure 7 rfl (by kernel_rfl) (fun _ _ _ h => h) (.inl ⟨by rfl, ?ip7⟩) ?iest7
 case ip7 => intro wx; go_simp; try with_reducible rfl
 simp only [Act.put, Dp.tks]
 refine' Dp.wpAny_pure 8 rfl (by kernel_rfl) (fun _ _ _ h => h) (.inl ⟨by rfl, ?ip8⟩) ?iest8
 case ip8 => intro wx; go_simp; try with_reducible rfl
 simp only [Act.put, Dp.tks]
 refine' Dp.wpAny_pure 9 rfl (by kernel_rfl) (fun _ _ _ h => h) (.inl ⟨by rfl, ?ip9⟩) ?iest9
 case ip9 => intro wx; go_simp; try with_reducible rfl
 simp only [Act.put, Dp.tks]
 refine' Dp.wpAny_pure 10 rfl (by kernel_rfl) (fun _ _ _ h => h) (.inl ⟨by rfl, ?ip10⟩) ?iest10
 case ip10 => intro wx; go_simp; try with_reducible rfl
 simp only [Act.put, Dp.tks]
 refine' Dp.wpAny_pure 11 rfl (by kernel_rfl) (fun _ _ _ h => h) (.inl ⟨by rfl, ?ip11⟩) ?iest11
 case ip11 => intro wx; go_simp; try with_reducible rfl
 simp only [Act.put, Dp.tks]
 refine wpAny_done (by kernel_rfl) ?_ _
 have HSS : Hid (Dp.Side w3 s b p g G vs vr (Dp.applyOp m 2 N)) := by
  have e1 : Dp.applyOp m 2 N = (Dp.Mach.run N m).1 := by unfold Dp.applyOp; rw [if_neg (by decide), if_pos ⟨rfl, by omega, by omega⟩, Int.toNat_natCast]
  unfold Hid; rw [e1]
  exact h1d.then (k2) p2 (hS2.mono (fun _ _ e => e.elim) |>.trans k3) m3
 generalize Dp.Mach.run N m = RR at *
 have HKK : Hid (Dp.Keeps (fun k => k = b ∨ k = p ∨ k = g) w w3) := (((k1.trans hS0).mono (fun _ _ e => e.elim)).next k2 (fun _ _ e => .inl e)).next (hS2.mono (fun _ _ e => e.elim) |>.trans k3) (fun _ _ e => .inr e)
 clear c1 cn
 go_wp2
 go_ret
 exact ⟨rfl, HKK.out, HSS.out⟩
set_option maxRecDepth 100000 in
set_option maxHeartbeats 1000000 in
theorem lawStep2Err (w : World) (W s b p g : Nat) (G : Nat → Prop) (vs vr : Value) (m : Dp.Mach) (kind n : Int) (vA : Value) (St : ByteArray) (which : Bool) (h : Dp.Side w s b p g G vs vr m) (hk : kind = 2) (hn : n < 0 ∨ 100000 < n) :
  Calls Tryz.prog 32 #[.pointer (some ⟨W, 0, none⟩), .pointer (some ⟨s, 0, none⟩), .agg (Dp.opCells kind n vA St which).toArray] w fun e w' => e = .returned (.bool true) ∧ Dp.Keeps (fun k => k = b ∨ k = p ∨ k = g) w w' ∧ Dp.Side w' s b p g G vs vr (Dp.applyOp m kind n) := by
 obtain ⟨n1, n2, n3, n4, n5, n6, n7⟩ := h.ne
 go_enter Tryz.func32, Tryz.ntmps32
 go_wp2_with (refine Dp.wpList_box_row rfl 40 _ rfl (Dp.opCells kind n vA St which) rfl ?_)
 intro w1 r1 z1 k1
 have h1 := h.still k1
 clear h
 subst hk
 obtain ⟨o0, _, _, _, _⟩ := r1.ops
 have qx : ∀ wx, Dp.Keeps (fun _ => False) w1 wx → wx.cell? ⟨s, 0, none⟩ = some (.pointer (some ⟨b, 0, none⟩)) := fun wx kx => (h1.row.keep kx (fun e => e)).cell 0
 have qn : ∀ wx, Dp.Keeps (fun _ => False) w1 wx → wx.cell? ⟨w.heap.size, 1, none⟩ = some (.int .i64 n) := fun wx kx => ((r1.keep kx (fun e => e)).ops).2.1
 have hS0 : Dp.Keeps (fun _ => False) w1 w1.drew := (Dp.Keeps.refl _ _).drew
 go_wp2
 clear o0
 refine Dp.wp_region_L (fun wx => Dp.Keeps (fun _ => False) w1 wx) 6 mixedP ?_
 refine' Dp.tj 0 hS0 ?_
 simp only [Act.put, Dp.tks]
 refine' Dp.tj 1 hS0 ?_
 simp only [Act.put, Dp.tks]
 refine' Dp.tj 2 hS0 ?_
 simp only [Act.put, Dp.tks]
 refine' Dp.tj 3 hS0 ?_
 simp only [Act.put, Dp.tks]
 refine' Dp.tj 4 hS0 ?_
 simp only [Act.put, Dp.tks]
 refine' Dp.tj 5 hS0 ?_
 simp only [Act.put, Dp.tks]
 refine Dp.wpAnyL_one 6 rfl (by kernel_rfl) (by rfl) (fun K hK => ?_)
 go_simp
 refine (progMRunErr w1.drew b n hn).mono ?_
 rintro e w2 ⟨rfl, hw2⟩
 have k2 : Dp.Keeps (fun k => k = b) w1.drew w2 := by rw [hw2]; exact Dp.Keeps.refl _ _
 have p2 : Dp.ProgM w2 b G vs m := by rw [hw2]; exact (h1.still hS0).prog
 clear hw2
 refine hK _ _ ⟨fun h => absurd h (Nat.lt_irrefl _), ?_⟩
 clear hK K
 refine Dp.wpAnyL_rest (by kernel_rfl) ?_
 refine' Dp.wpAny_pure 7 rfl (by kernel_rfl) (fun _ _ _ h => h) (.inl ⟨by rfl, ?hp7⟩) ?pest7
 case hp7 => intro wx; go_simp; try with_reducible rfl
 simp only [Act.put, Dp.tks]
 refine' Dp.wpAny_pure 8 rfl (by kernel_rfl) (fun _ _ _ h => h) (.inl ⟨by rfl, ?hp8⟩) ?pest8
 case hp8 => intro wx; go_simp; try with_reducible rfl
 simp only [Act.put, Dp.tks]
 refine' Dp.wpAny_pure 9 rfl (by kernel_rfl) (fun _ _ _ h => h) (.inl ⟨by rfl, ?hp9⟩) ?pest9
 case hp9 => intro wx; go_simp; try with_reducible rfl
 simp only [Act.put, Dp.tks]
 refine' Dp.wpAny_pure 10 rfl (by kernel_rfl) (fun _ _ _ h => h) (.inl ⟨by rfl, ?hp10⟩) ?pest10
 case hp10 => intro wx; go_simp; try with_reducible rfl
 simp only [Act.put, Dp.tks]
 refine' Dp.wpAny_pure 11 rfl (by kernel_rfl) (fun _ _ _ h => h) (.inl ⟨by rfl, ?hp11⟩) ?pest11
 case hp11 => intro wx; go_simp; try with_reducible rfl
 simp only [Act.put, Dp.tks]
 refine wpAny_done (by kernel_rfl) ?_ _
 have h1d := h1.still hS0
 have c1 : ∀ wx, Dp.Keeps (fun _ => False) w2 wx → wx.cell? ⟨s, 1, none⟩ = some (.pointer (some ⟨p, 0, none⟩)) := fun wx kx => ((h1d.row.keep k2 n1).keep kx (fun e => e)).cell 1
 have hwb : ¬ w.heap.size = b := fun e => by have := h1.prog.row; exact (r1.ne this (by decide)) e
 have cn : ∀ wx, Dp.Keeps (fun _ => False) w2 wx → wx.cell? ⟨w.heap.size, 1, none⟩ = some (.int .i64 n) := fun wx kx => (((r1.keep hS0 (fun e => e)).keep k2 hwb).keep kx (fun e => e)).ops.2.1
 have HRF := Hid.mk_ (h1d.refOn k2)
 have hS2 : Dp.Keeps (fun _ => False) w2 w2.drew := (Dp.Keeps.refl _ _).drew
 clear qx qn
 go_wp2
 refine Dp.wp_region_L (fun wx => Dp.Keeps (fun _ => False) w2 wx) 6 mixedP ?_
 refine' Dp.tj 0 hS2 ?_
 simp only [Act.put, Dp.tks]
 refine' Dp.tj 1 hS2 ?_
 simp only [Act.put, Dp.tks]
 refine' Dp.tj 2 hS2 ?_
 simp only [Act.put, Dp.tks]
 refine' Dp.tj 3 hS2 ?_
 simp only [Act.put, Dp.tks]
 refine' Dp.tj 4 hS2 ?_
 simp only [Act.put, Dp.tks]
 refine' Dp.tj 5 hS2 ?_
 simp only [Act.put, Dp.tks]
 refine Dp.wpAnyL_one 6 rfl (by kernel_rfl) (by rfl) (fun K hK => ?_)
 go_simp
 refine (refRunErr w2.drew p n hn).mono ?_
 rintro e w3 ⟨rfl, hw3⟩
 have k3 : Dp.Keeps (fun k => k = p ∨ k = g) w2.drew w3 := by rw [hw3]; exact Dp.Keeps.refl _ _
 have m3 : Dp.RefM w3 p g vr m := by rw [hw3]; exact HRF.out.keep hS2 (fun e => e) (fun e => e) (fun _ _ e => e)
 clear hw3
 refine hK _ _ ⟨fun h => absurd h (Nat.lt_irrefl _), ?_⟩
 clear hK K
 refine Dp.wpAnyL_rest (by kernel_rfl) ?_
 refine' Dp.wpAny_pure 7 rfl (by kernel_rfl) (fun _ _ _ h => h) (.inl ⟨by rfl, ?ip7⟩) ?iest7
 case ip7 => intro wx; go_simp; try with_reducible rfl
 simp only [Act.put, Dp.tks]
 refine' Dp.wpAny_pure 8 rfl (by kernel_rfl) (fun _ _ _ h => h) (.inl ⟨by rfl, ?ip8⟩) ?iest8
 case ip8 => intro wx; go_simp; try with_reducible rfl
 simp only [Act.put, Dp.tks]
 refine' Dp.wpAny_pure 9 rfl (by kernel_rfl) (fun _ _ _ h => h) (.inl ⟨by rfl, ?ip9⟩) ?iest9
 case ip9 => intro wx; go_simp; try with_reducible rfl
 simp only [Act.put, Dp.tks]
 refine' Dp.wpAny_pure 10 rfl (by kernel_rfl) (fun _ _ _ h => h) (.inl ⟨by rfl, ?ip10⟩) ?iest10
 case ip10 => intro wx; go_simp; try with_reducible rfl
 simp only [Act.put, Dp.tks]
 refine' Dp.wpAny_pure 11 rfl (by kernel_rfl) (fun _ _ _ h => h) (.inl ⟨by rfl, ?ip11⟩) ?iest11
 case ip11 => intro wx; go_simp; try with_reducible rfl
 simp only [Act.put, Dp.tks]
 refine wpAny_done (by kernel_rfl) ?_ _
 have HSS : Hid (Dp.Side w3 s b p g G vs vr (Dp.applyOp m 2 n)) := by
  have e1 : Dp.applyOp m 2 n = m := by unfold Dp.applyOp; rw [if_neg (by decide), if_neg (by omega)]
  unfold Hid; rw [e1]
  exact h1d.then (k2) p2 (hS2.mono (fun _ _ e => e.elim) |>.trans k3) m3
 have HKK : Hid (Dp.Keeps (fun k => k = b ∨ k = p ∨ k = g) w w3) := (((k1.trans hS0).mono (fun _ _ e => e.elim)).next k2 (fun _ _ e => .inl e)).next (hS2.mono (fun _ _ e => e.elim) |>.trans k3) (fun _ _ e => .inr e)
 clear c1 cn
 go_wp2
 go_ret
 exact ⟨rfl, HKK.out, HSS.out⟩
set_option maxRecDepth 100000 in
set_option maxHeartbeats 1000000 in
theorem lawStep3 (w : World) (W s b p g : Nat) (G : Nat → Prop) (vs vr : Value) (m : Dp.Mach) (kind n : Int) (vA : Value) (St : ByteArray) (which : Bool) (h : Dp.Side w s b p g G vs vr m) (hk : kind = 3) :
  Calls Tryz.prog 32 #[.pointer (some ⟨W, 0, none⟩), .pointer (some ⟨s, 0, none⟩), .agg (Dp.opCells kind n vA St which).toArray] w fun e w' => e = .returned (.bool true) ∧ Dp.Keeps (fun k => k = b ∨ k = p ∨ k = g) w w' ∧ Dp.Side w' s b p g G vs vr (Dp.applyOp m kind n) := by
 obtain ⟨n1, n2, n3, n4, n5, n6, n7⟩ := h.ne
 go_enter Tryz.func32, Tryz.ntmps32
 go_wp2_with (refine Dp.wpList_box_row rfl 40 _ rfl (Dp.opCells kind n vA St which) rfl ?_)
 intro w1 r1 z1 k1
 have h1 := h.still k1
 clear h
 subst hk
 obtain ⟨o0, _, _, _, _⟩ := r1.ops
 go_wp2_with fail
 refine (lawLooked w1 s b p g G vs vr m h1).mono ?_
 rintro e w2 ⟨rfl, k2, h2⟩
 have HSS : Hid (Dp.Side w2 s b p g G vs vr (Dp.applyOp m 3 n)) := h2
 have HKK : Hid (Dp.Keeps (fun k => k = b ∨ k = p ∨ k = g) w w2) := (k1.mono (fun _ _ e => e.elim)).next k2 (fun _ _ e => .inr (.inl e))
 clear o0
 go_wp2
 go_ret
 exact ⟨rfl, HKK.out, HSS.out⟩
set_option maxRecDepth 100000 in
set_option maxHeartbeats 1000000 in
theorem lawStepNo (w : World) (W s b p g : Nat) (G : Nat → Prop) (vs vr : Value) (m : Dp.Mach) (kind n : Int) (vA : Value) (St : ByteArray) (which : Bool) (h : Dp.Side w s b p g G vs vr m) (hk : kind < 1) :
  Calls Tryz.prog 32 #[.pointer (some ⟨W, 0, none⟩), .pointer (some ⟨s, 0, none⟩), .agg (Dp.opCells kind n vA St which).toArray] w fun e w' => e = .returned (.bool true) ∧ Dp.Keeps (fun k => k = b ∨ k = p ∨ k = g) w w' ∧ Dp.Side w' s b p g G vs vr (Dp.applyOp m kind n) := by
 obtain ⟨n1, n2, n3, n4, n5, n6, n7⟩ := h.ne
 go_enter Tryz.func32, Tryz.ntmps32
 go_wp2_with (refine Dp.wpList_box_row rfl 40 _ rfl (Dp.opCells kind n vA St which) rfl ?_)
 intro w1 r1 z1 k1
 have h1 := h.still k1
 clear h
 obtain ⟨o0, _, _, _, _⟩ := r1.ops
 have e1 : kind ≠ 1 := by omega
 have e2 : kind ≠ 2 := by omega
 have e3 : kind ≠ 3 := by omega
 have e4 : kind ≠ 4 := by omega
 have e5 : kind ≠ 5 := by omega
 have e6 : kind ≠ 6 := by omega
 have e7 : kind ≠ 7 := by omega
 have e8 : kind ≠ 8 := by omega
 have e9 : kind ≠ 9 := by omega
 have HSS : Hid (Dp.Side w1 s b p g G vs vr (Dp.applyOp m kind n)) := by
  have e : Dp.applyOp m kind n = m := by unfold Dp.applyOp; rw [if_neg e1, if_neg (fun h => e2 h.1)]
  unfold Hid; rw [e]; exact h1
 have HKK : Hid (Dp.Keeps (fun k => k = b ∨ k = p ∨ k = g) w w1) := k1.mono (fun _ _ e => e.elim)
 go_wp2
 go_ret
 exact ⟨rfl, HKK.out, HSS.out⟩
end Go.Proofs.YtdipojfngdceoaaGreatDoor
