/- Steps on the way: KeepLies, KeepSound, OpenBase, OpenWide, ErrLaid. -/
import Derived.Test.YtdipojfngdceoaaGreatDoorPack01
import Derived.Test.YtdipojfngdceoaaGreatDoorPack70
import Derived.Test.YtdipojfngdceoaaGreatDoorPack84
import Derived.Test.YtdipojfngdceoaaGreatDoorPack96
import Derived.Test.YtdipojfngdceoaaGreatDoorPack97
import Derived.Test.YtdipojfngdceoaaGreatDoorPack99
import Derived.Test.YtdipojfngdceoaaGreatDoorRows
import Derived.ProofKit
import Derived.OpenShut
import Derived.Lib.SmallJoins
import Derived.LaidLaws
import Derived.LaidSub
/- Is a witness of a wrong step shown to be one, time and again: the walk. -/
namespace Go.Proofs.YtdipojfngdceoaaGreatDoor
open Go.RowKit

namespace Dp
theorem Two.to {w w1 w2 : World} {a b : Value} {A B : List UInt8} (h : Two w w1 a b A B) (k : Keeps (fun _ => False) w1 w2) : Two w w2 a b A B :=
  ⟨h.own1.keep k (fun _ _ e => e), h.own2.keep k (fun _ _ e => e), h.ne, h.sum, h.new1, h.new2, h.apart, h.small1, h.small2⟩
end Dp

set_option maxRecDepth 100000 in
set_option maxHeartbeats 4000000 in
theorem keepLies (w : World) (eb : Addr) (b0 : Nat) (G : Nat → Prop) (vs : Value) (m : Dp.Mach) (v vt : Value) (raw : List Int) (texts : List (List UInt8)) (ahead : Int) (ad : Option Addr) (cap : Nat) (l : List UInt8) (he : Dp.ErrAt w eb) (hM : Dp.ProgM w b0 G vs m) (hm : Dp.openedMach raw texts ahead = m) (hW : Dp.IntsW w v raw) (h64 : ∀ x ∈ raw, -9223372036854775808 ≤ x ∧ x ≤ 9223372036854775807) (hT : Dp.TextsW w vt texts) (ha : -9223372036854775808 ≤ ahead ∧ ahead ≤ 9223372036854775807) (hc : Dp.Cutting w (.slice ad l.length cap) l) (hl : l.length ≤ 16777216) :
    Calls Tryz.prog 17 #[.pointer (some ⟨b0, 0, none⟩), v, vt, .int .i64 ahead, .slice ad l.length cap] w fun e w' => e = .returned (.bool true) ∧ Dp.Keeps (fun _ => False) w w' := by
  have HM := Hid.mk_ hM
  have HE := Hid.mk_ he
  have HWI := Hid.mk_ hW
  have HTI := Hid.mk_ hT
  have H64 := Hid.mk_ h64
  have HCU := Hid.mk_ hc
  have HMM := Hid.mk_ hm
  clear hM he hW hT h64 hc hm
  go_enter Tryz.func17, Tryz.ntmps17
  go_wp2_with fail
  refine (progMStamp w b0 G vs m HM.out).mono ?_
  rintro e w1 ⟨rfl, k1⟩
  go_wp2_with fail
  refine (progMWitness w1 b0 G vs m (HM.out.keep k1 (fun e => e) (fun _ _ e => e))).mono ?_
  rintro e w2 ⟨v2, rfl, ho2, _, k2⟩
  have HK2 := Hid.mk_ (k1.trans k2)
  have HW2 := Hid.mk_ ho2
  obtain ⟨v2a, v2c, ev2⟩ := ho2.isSlice
  subst ev2
  clear ho2 k1 k2
  go_wp2_with fail
  refine (progCheck w2 eb (Dp.stamp m.s (Dp.root m.cells)) ad cap l (HE.out.keep HK2.out) (HCU.out.still HK2.out) hl).mono ?_
  rintro e w3 ⟨rfl, k3⟩
  have HK3 := Hid.mk_ (HK2.out.trans k3)
  have HW3 := Hid.mk_ (HW2.out.keep k3 (fun _ _ e => e))
  clear k3 HK2 HW2
  generalize hS : Dp.stamp m.s (Dp.root m.cells) = S at *
  have HST := Hid.mk_ hS
  generalize hCC : Dp.checked S l = CC at *
  have HCC := Hid.mk_ hCC
  obtain ⟨C1, C2⟩ := CC
  generalize hME : m.step.2 = ME at *
  have HME := Hid.mk_ hME
  clear hS hCC hME
  go_wp2_with fail
  refine (keepLent w3 _ l (HCU.out.still HK3.out).bytes hl).mono ?_
  rintro e w5 ⟨rfl, r5, z5, k5⟩
  obtain ⟨gi, hgi⟩ : ∃ gi, gi = w3.heap.size := ⟨_, rfl⟩
  rw [← hgi] at r5 ⊢
  have HRL := Hid.mk_ r5
  have HK5 := Hid.mk_ (HK3.out.trans k5)
  have HW5 := Hid.mk_ (HW3.out.keep k5 (fun _ _ e => e))
  have HM5 := Hid.mk_ (HM.out.keep HK5.out (fun e => e) (fun _ _ e => e))
  have HE5 := Hid.mk_ (HE.out.keep HK5.out)
  have HUB := Hid.mk_ (HCU.out.still HK5.out).bytes
  have HCV : Hid (Dp.Cutting w5 (.slice (some ⟨gi, 0, none⟩) l.length (l.length + 2)) l) := by
    refine ⟨some ⟨gi, 0, none⟩, l.length + 2, rfl, by omega, by unfold maxLen; omega, fun _ => ⟨gi, 0, rfl, fun j hj => ?_⟩⟩
    rw [Nat.zero_add, HRL.out.cell]
    unfold Dp.lentCells
    rw [List.getElem?_append_left (by rw [Dp.vals_length]; exact hj)]
    simp [Dp.vals, hj]
  clear r5 z5 k5 hgi HK3 HW3 HM
  have hgl : (l.length : Int) ≤ (l.length : Int) + 2 := by omega
  have HDEF : Hid (Dp.collides m l ↔ (C2 = 0 ∧ ME ≠ 5 ∧ ¬ (ME = 0 ∧ Dp.stamp m.step.1.s (Dp.root m.step.1.cells) = C1))) := by
    unfold Hid Dp.collides
    rw [HST.out, HCC.out, HME.out]
  go_wp2_with fail
  refine (progMCollision w5 eb b0 G vs m HM5.out _ _ l HE5.out HCV.out hl).mono ?_
  rintro e w6 ⟨k6, ⟨hno, rfl⟩ | ⟨hyes, a, b, A, B, rfl, hT6⟩⟩
  · have HNO := Hid.mk_ hno
    have HK6 := Hid.mk_ k6
    clear hno k6
    go_wp2_with fail
    refine (keepStill w6 gi _ l (HRL.out.keep HK6.out (fun e => e)) (HUB.out.still HK6.out) hl).mono ?_
    rintro e w7 ⟨rfl, k7⟩
    have HK7 := Hid.mk_ ((HK5.out.trans HK6.out).trans k7)
    have HC7 := Hid.mk_ (HK6.out.trans k7)
    clear k7 HK6
    go_wp2_with fail
    refine (keepOpened w7 v vt raw texts ahead (HWI.out.still HK7.out) H64.out (HTI.out.still HK7.out) ha).mono ?_
    rintro e w8 ⟨⟨bt, vst, Gt, rfl, hbt, hGt, hMt⟩, k8⟩
    rw [HMM.out] at hMt
    have HMT := Hid.mk_ hMt
    have HK8 := Hid.mk_ (HK7.out.trans k8)
    have HC8 := Hid.mk_ (HC7.out.trans k8)
    have hbw : w.heap.size ≤ bt := by have := HK7.out.size; omega
    clear k8 hMt hbt hGt HK7 HC7
    go_wp2_with fail
    refine (progMStamp w8 b0 G vs m (HM5.out.keep HC8.out (fun e => e) (fun _ _ e => e))).mono ?_
    rintro e w9 ⟨rfl, k9⟩
    rw [HST.out]
    have HMT9 := Hid.mk_ (HMT.out.keep k9 (fun e => e) (fun _ _ e => e))
    have HK9 := Hid.mk_ (HK8.out.trans k9)
    clear k9 HMT HK8 HC8
    go_wp2_with fail
    refine (progMStamp w9 bt Gt vst m HMT9.out).mono ?_
    rintro e w10 ⟨rfl, k10⟩
    rw [HST.out]
    have HMT10 := Hid.mk_ (HMT9.out.keep k10 (fun e => e) (fun _ _ e => e))
    have HK10 := Hid.mk_ (HK9.out.trans k10)
    clear k10 HMT9 HK9
    go_wp2_with fail
    refine (progMStep w10 bt Gt vst m HMT10.out).mono ?_
    rintro e w11 ⟨rfl, k11, hM11⟩
    rw [HME.out]
    have HM11 := Hid.mk_ hM11
    have HK11 : Hid (Dp.Keeps (fun _ => False) w w11) := HK10.out.next k11 (fun q hq e => by omega)
    clear k11 hM11 HMT10 HK10
    by_cases c2 : C2 = 0
    · by_cases m5 : ME = 5
      · subst c2
        subst m5
        go_wp2
        go_ret
        exact ⟨rfl, HK11.out⟩
      · by_cases m0 : ME = 0
        · have hst : Dp.stamp m.step.1.s (Dp.root m.step.1.cells) = C1 := by
            by_cases h : Dp.stamp m.step.1.s (Dp.root m.step.1.cells) = C1
            · exact h
            · exact absurd (HDEF.out.2 ⟨c2, m5, fun hh => h hh.2⟩) HNO.out
          have HS1 := Hid.mk_ hst
          clear hst
          subst c2
          subst m0
          go_wp2_with fail
          refine (progMStamp w11 bt Gt vst _ HM11.out).mono ?_
          rintro e w12 ⟨rfl, k12⟩
          rw [HS1.out]
          have HK12 := Hid.mk_ (HK11.out.trans k12)
          clear k12
          go_wp2
          go_ret
          exact ⟨rfl, HK12.out⟩
        · exact absurd (HDEF.out.2 ⟨c2, m5, fun hh => m0 hh.1⟩) HNO.out
    · go_wp2
      go_ret
      exact ⟨rfl, HK11.out⟩
  · have HCOL := Hid.mk_ hyes
    have HTW6 := Hid.mk_ hT6
    have HK6 := Hid.mk_ k6
    obtain ⟨a1, a2, ea⟩ := hT6.own1.isSlice
    obtain ⟨b1, b2, ebb⟩ := hT6.own2.isSlice
    subst ea
    subst ebb
    clear hyes hT6 k6
    go_wp2_with fail
    refine (keepStill w6 gi _ l (HRL.out.keep HK6.out (fun e => e)) (HUB.out.still HK6.out) hl).mono ?_
    rintro e w7 ⟨rfl, k7⟩
    have HK7 := Hid.mk_ ((HK5.out.trans HK6.out).trans k7)
    have HC7 := Hid.mk_ (HK6.out.trans k7)
    have HTW0 := Hid.mk_ (HTW6.out.to k7)
    clear k7 HK6 HTW6
    go_wp2_with fail
    refine (keepOpened w7 v vt raw texts ahead (HWI.out.still HK7.out) H64.out (HTI.out.still HK7.out) ha).mono ?_
    rintro e w8 ⟨⟨bt, vst, Gt, rfl, hbt, hGt, hMt⟩, k8⟩
    rw [HMM.out] at hMt
    have HMT := Hid.mk_ hMt
    have HC8 := Hid.mk_ (HC7.out.trans k8)
    have HT8 := Hid.mk_ k8
    clear hMt hGt HK7
    go_wp2_with fail
    refine (progMStamp w8 b0 G vs m (HM5.out.keep HC8.out (fun e => e) (fun _ _ e => e))).mono ?_
    rintro e w9 ⟨rfl, k9⟩
    rw [HST.out]
    have HMT9 := Hid.mk_ (HMT.out.keep k9 (fun e => e) (fun _ _ e => e))
    have HC9a := Hid.mk_ (HC8.out.trans k9)
    have HT9 := Hid.mk_ (HT8.out.trans k9)
    clear k9 HMT HC8 HT8 k8
    go_wp2_with fail
    refine (progMStamp w9 bt Gt vst m HMT9.out).mono ?_
    rintro e w10 ⟨rfl, k10⟩
    rw [HST.out]
    have HMT10 := Hid.mk_ (HMT9.out.keep k10 (fun e => e) (fun _ _ e => e))
    have HC10 := Hid.mk_ (HC9a.out.trans k10)
    have HT10 := Hid.mk_ (HT9.out.trans k10)
    clear k10 HMT9 HC9a HT9
    go_wp2_with fail
    refine (progMStep w10 bt Gt vst m HMT10.out).mono ?_
    rintro e w11 ⟨rfl, k11, hM11⟩
    rw [HME.out]
    have HM11 := Hid.mk_ hM11
    have hs7 := HC7.out.size
    have HC11 : Hid (Dp.Keeps (fun _ => False) w5 w11) := HC10.out.next k11 (fun q hq e => by omega)
    have HT11 : Hid (Dp.Keeps (fun _ => False) w7 w11) := HT10.out.next k11 (fun q hq e => by omega)
    clear k11 hM11 HMT10 HC10 HT10 hbt
    obtain ⟨c2, m5, hd⟩ := HDEF.out.1 HCOL.out
    by_cases m0 : ME = 0
    · have hne : C1 ≠ Dp.stamp m.step.1.s (Dp.root m.step.1.cells) := fun e => hd ⟨m0, e.symm⟩
      have HNE := Hid.mk_ hne
      clear hne hd
      subst c2
      subst m0
      go_wp2_with fail
      refine (progMStamp w11 bt Gt vst _ HM11.out).mono ?_
      rintro e w12 ⟨rfl, k12⟩
      have hne := HNE.out
      generalize Dp.stamp m.step.1.s (Dp.root m.step.1.cells) = S1 at *
      have hbn : (C1 != S1) = true := by simpa using hne
      clear hne HNE
      have HC := Hid.mk_ (HC11.out.trans k12)
      have HKT := Hid.mk_ (HT11.out.trans k12)
      clear k12 HC11 HT11 HM11
      have HTW := Hid.mk_ (HTW0.out.to HKT.out)
      go_wp2_with fail
      refine (keepShown _ _ _ A B (Dp.own_bytes HTW.out.own1) (Dp.own_bytes HTW.out.own2) HTW.out.ne HTW.out.sum).mono ?_
      rintro e y1 ⟨rfl, j1⟩
      have HA1 := Hid.mk_ (HTW.out.own1.keep j1 (fun _ _ e => e))
      have HB1 := Hid.mk_ (HTW.out.own2.keep j1 (fun _ _ e => e))
      have HC1 := Hid.mk_ (HC.out.trans j1)
      have hs1 : w5.heap.size ≤ y1.heap.size := HC1.out.size
      clear j1
      go_wp2_with fail
      refine (keepOver y1 _ A 63 HA1.out (by have := HTW.out.small1; omega)).mono ?_
      rintro e y2 ⟨vx, xls, rfl, hx2, j2⟩
      have HX2 := Hid.mk_ hx2
      have HC2 : Hid (Dp.Keeps (fun _ => False) w5 y2) := HC1.out.next j2 (fun q hq e => by have := HTW.out.new1 q e; omega)
      have HB2 := Hid.mk_ (HB1.out.keep j2 (fun g hg e => HTW.out.apart g e hg))
      have hsb := Hid.mk_ HB1.out.lt
      have hs2 := j2.size
      clear hx2 j2
      go_wp2_with fail
      refine (keepOver y2 _ B 64 HB2.out (by have := HTW.out.small2; omega)).mono ?_
      rintro e y3 ⟨vy, yls, rfl, hy3, j3⟩
      have HY3 := Hid.mk_ hy3
      have HX3 := Hid.mk_ (HX2.out.keep j3 (fun g hg e => by have := HX2.out.new g hg; have := hsb.out g e; omega) (fun u hu g C hg _ e => by
        obtain ⟨_, _, _, hgb⟩ := HX2.out.each u hu
        rcases hgb g hg with h | h
        · have := hsb.out g e; omega
        · exact HTW.out.apart g h e))
      have HC3 : Hid (Dp.Keeps (fun _ => False) w5 y3) := HC2.out.next j3 (fun q hq e => by have := HTW.out.new2 q e; omega)
      clear hy3 j3 HX2 HB2 HA1 HB1 HC2 HC1 hsb
      have HM3 := Hid.mk_ (HM5.out.keep HC3.out (fun e => e) (fun _ _ e => e))
      have HCV3 := Hid.mk_ (HCV.out.still HC3.out)
      have he3 := Hid.mk_ (HE5.out.keep HC3.out)
      go_wp2_with fail
      refine (progMCollision y3 eb b0 G vs m HM3.out _ _ l he3.out HCV3.out hl).mono ?_
      rintro e y4 ⟨j4, ⟨hno, _⟩ | ⟨_, c, d, CT, DT, rfl, hT4⟩⟩
      · exact absurd HCOL.out hno
      have HT4 := Hid.mk_ hT4
      have HD4 := Hid.mk_ j4
      have hs4 := j4.size
      clear hT4 j4 HM3 HCV3 he3
      obtain ⟨c1, c2, ec⟩ := HT4.out.own1.isSlice
      obtain ⟨d1, d2, ed⟩ := HT4.out.own2.isSlice
      subst ec
      subst ed
      go_wp2_with fail
      refine (keepShown _ _ _ CT DT (Dp.own_bytes HT4.out.own1) (Dp.own_bytes HT4.out.own2) HT4.out.ne HT4.out.sum).mono ?_
      rintro e y5 ⟨rfl, j5⟩
      have HCC5 := Hid.mk_ (HT4.out.own1.keep j5 (fun _ _ e => e))
      have HDD5 := Hid.mk_ (HT4.out.own2.keep j5 (fun _ _ e => e))
      have HD5 := Hid.mk_ (HD4.out.trans j5)
      have hs5 := j5.size
      clear j5
      go_wp2_with fail
      refine (keepOver y5 _ CT 65 HCC5.out (by have := HT4.out.small1; omega)).mono ?_
      rintro e y6 ⟨vp, pls, rfl, hp6, j6⟩
      have HP6 := Hid.mk_ hp6
      have HD6 : Hid (Dp.Keeps (fun _ => False) y3 y6) := HD5.out.next j6 (fun q hq e => by have := HT4.out.new1 q e; omega)
      have HDD6 := Hid.mk_ (HDD5.out.keep j6 (fun g hg e => HT4.out.apart g e hg))
      have hsd := Hid.mk_ HDD5.out.lt
      have hs6 := j6.size
      clear hp6 j6
      go_wp2_with fail
      refine (keepOver y6 _ DT 66 HDD6.out (by have := HT4.out.small2; omega)).mono ?_
      rintro e y7 ⟨vq, qls, rfl, hq7, j7⟩
      have HQ7 := Hid.mk_ hq7
      have HP7 := Hid.mk_ (HP6.out.keep j7 (fun g hg e => by have := HP6.out.new g hg; have := hsd.out g e; omega) (fun u hu g C hg _ e => by
        obtain ⟨_, _, _, hgb⟩ := HP6.out.each u hu
        rcases hgb g hg with h | h
        · have := hsd.out g e; omega
        · exact HT4.out.apart g h e))
      have HD7 : Hid (Dp.Keeps (fun _ => False) y3 y7) := HD6.out.next j7 (fun q hq e => by have := HT4.out.new2 q e; omega)
      clear hq7 j7 HP6 HDD6 HDD5 HCC5 HD6 HD5 hsd
      have HC7 := Hid.mk_ (HC3.out.trans HD7.out)
      have HM7 := Hid.mk_ (HM5.out.keep HC7.out (fun e => e) (fun _ _ e => e))
      go_wp2_with fail
      refine (progMWitness y7 b0 G vs m HM7.out).mono ?_
      rintro e y8 ⟨v8, rfl, ho8, _, j8⟩
      have HO8 := Hid.mk_ ho8
      have HC8 := Hid.mk_ (HC7.out.trans j8)
      have HJ8 := Hid.mk_ j8
      obtain ⟨v8a, v8c, ev8⟩ := ho8.isSlice
      subst ev8
      clear ho8 j8 HM7
      go_wp2_with fail
      refine (keepStill y8 gi _ l (HRL.out.keep HC8.out (fun e => e)) (HUB.out.still HC8.out) hl).mono ?_
      rintro e y9 ⟨rfl, j9⟩
      have HJ9 := Hid.mk_ (HJ8.out.trans j9)
      have HC9 := Hid.mk_ (HC8.out.trans j9)
      have HN9 := Hid.mk_ (HO8.out.keep j9 (fun _ _ e => e))
      have HX9 := Hid.mk_ (HX3.out.keep (HD7.out.trans HJ9.out) (fun _ _ e => e) (fun _ _ _ _ _ _ e => e))
      have HY9 := Hid.mk_ (HY3.out.keep (HD7.out.trans HJ9.out) (fun _ _ e => e) (fun _ _ _ _ _ _ e => e))
      have HP9 := Hid.mk_ (HP7.out.keep HJ9.out (fun _ _ e => e) (fun _ _ _ _ _ _ e => e))
      have HQ9 := Hid.mk_ (HQ7.out.keep HJ9.out (fun _ _ e => e) (fun _ _ _ _ _ _ e => e))
      clear j9 HX3 HY3 HP7 HQ7 HJ9 HJ8 HO8 HC8
      go_wp2_with fail
      refine (keepMarked _ _ y9 _ _ 63 _ HX9.out (by have := HX9.out.lenx; have := HTW.out.small1; have := HTW.out.small2; have := HT4.out.small1; have := HT4.out.small2; omega) (by have := HTW.out.small1; omega)).mono ?_
      rintro e z1 ⟨rfl, rfl⟩
      go_wp2_with fail
      refine (keepMarked _ _ _ _ _ 64 _ HY9.out (by have := HY9.out.lenx; have := HTW.out.small1; have := HTW.out.small2; have := HT4.out.small1; have := HT4.out.small2; omega) (by have := HTW.out.small2; omega)).mono ?_
      rintro e z2 ⟨rfl, rfl⟩
      go_wp2_with fail
      refine (keepMarked _ _ _ _ _ 65 _ HP9.out (by have := HP9.out.lenx; have := HTW.out.small1; have := HTW.out.small2; have := HT4.out.small1; have := HT4.out.small2; omega) (by have := HT4.out.small1; omega)).mono ?_
      rintro e z3 ⟨rfl, rfl⟩
      go_wp2_with fail
      refine (keepMarked _ _ _ _ _ 66 _ HQ9.out (by have := HQ9.out.lenx; have := HTW.out.small1; have := HTW.out.small2; have := HT4.out.small1; have := HT4.out.small2; omega) (by have := HT4.out.small2; omega)).mono ?_
      rintro e z4 ⟨rfl, rfl⟩
      have HM9 := Hid.mk_ (HM5.out.keep HC9.out (fun e => e) (fun _ _ e => e))
      go_wp2_with fail
      refine (progMStamp _ b0 G vs m HM9.out).mono ?_
      rintro e y10 ⟨rfl, j10⟩
      rw [HST.out]
      have HK10 := Hid.mk_ ((HK5.out.trans HC9.out).trans j10)
      have t1 := Dp.run_toStr (Dp.own_bytes (HN9.out.keep j10 (fun _ _ e => e)))
      have t2 := Dp.run_toStr (Dp.own_bytes (HW5.out.keep (HC9.out.trans j10) (fun _ _ e => e)))
      generalize Dp.str (Dp.witnessOf m) = sw at *
      clear j10 HX9 HY9 HP9 HQ9 HM9 HN9
      go_wp2
      go_ret
      exact ⟨rfl, HK10.out⟩
    · clear hd
      subst c2
      have hb5 : (ME != 5) = true := by simpa using m5
      have hb0 : (ME != 0) = true := by simpa using m0
      have HC := HC11
      have HKT := HT11
      clear HC11 HT11 HM11
      have HTW := Hid.mk_ (HTW0.out.to HKT.out)
      go_wp2_with fail
      refine (keepShown _ _ _ A B (Dp.own_bytes HTW.out.own1) (Dp.own_bytes HTW.out.own2) HTW.out.ne HTW.out.sum).mono ?_
      rintro e y1 ⟨rfl, j1⟩
      have HA1 := Hid.mk_ (HTW.out.own1.keep j1 (fun _ _ e => e))
      have HB1 := Hid.mk_ (HTW.out.own2.keep j1 (fun _ _ e => e))
      have HC1 := Hid.mk_ (HC.out.trans j1)
      have hs1 : w5.heap.size ≤ y1.heap.size := HC1.out.size
      clear j1
      go_wp2_with fail
      refine (keepOver y1 _ A 63 HA1.out (by have := HTW.out.small1; omega)).mono ?_
      rintro e y2 ⟨vx, xls, rfl, hx2, j2⟩
      have HX2 := Hid.mk_ hx2
      have HC2 : Hid (Dp.Keeps (fun _ => False) w5 y2) := HC1.out.next j2 (fun q hq e => by have := HTW.out.new1 q e; omega)
      have HB2 := Hid.mk_ (HB1.out.keep j2 (fun g hg e => HTW.out.apart g e hg))
      have hsb := Hid.mk_ HB1.out.lt
      have hs2 := j2.size
      clear hx2 j2
      go_wp2_with fail
      refine (keepOver y2 _ B 64 HB2.out (by have := HTW.out.small2; omega)).mono ?_
      rintro e y3 ⟨vy, yls, rfl, hy3, j3⟩
      have HY3 := Hid.mk_ hy3
      have HX3 := Hid.mk_ (HX2.out.keep j3 (fun g hg e => by have := HX2.out.new g hg; have := hsb.out g e; omega) (fun u hu g C hg _ e => by
        obtain ⟨_, _, _, hgb⟩ := HX2.out.each u hu
        rcases hgb g hg with h | h
        · have := hsb.out g e; omega
        · exact HTW.out.apart g h e))
      have HC3 : Hid (Dp.Keeps (fun _ => False) w5 y3) := HC2.out.next j3 (fun q hq e => by have := HTW.out.new2 q e; omega)
      clear hy3 j3 HX2 HB2 HA1 HB1 HC2 HC1 hsb
      have HM3 := Hid.mk_ (HM5.out.keep HC3.out (fun e => e) (fun _ _ e => e))
      have HCV3 := Hid.mk_ (HCV.out.still HC3.out)
      have he3 := Hid.mk_ (HE5.out.keep HC3.out)
      go_wp2_with fail
      refine (progMCollision y3 eb b0 G vs m HM3.out _ _ l he3.out HCV3.out hl).mono ?_
      rintro e y4 ⟨j4, ⟨hno, _⟩ | ⟨_, c, d, CT, DT, rfl, hT4⟩⟩
      · exact absurd HCOL.out hno
      have HT4 := Hid.mk_ hT4
      have HD4 := Hid.mk_ j4
      have hs4 := j4.size
      clear hT4 j4 HM3 HCV3 he3
      obtain ⟨c1, c2, ec⟩ := HT4.out.own1.isSlice
      obtain ⟨d1, d2, ed⟩ := HT4.out.own2.isSlice
      subst ec
      subst ed
      go_wp2_with fail
      refine (keepShown _ _ _ CT DT (Dp.own_bytes HT4.out.own1) (Dp.own_bytes HT4.out.own2) HT4.out.ne HT4.out.sum).mono ?_
      rintro e y5 ⟨rfl, j5⟩
      have HCC5 := Hid.mk_ (HT4.out.own1.keep j5 (fun _ _ e => e))
      have HDD5 := Hid.mk_ (HT4.out.own2.keep j5 (fun _ _ e => e))
      have HD5 := Hid.mk_ (HD4.out.trans j5)
      have hs5 := j5.size
      clear j5
      go_wp2_with fail
      refine (keepOver y5 _ CT 65 HCC5.out (by have := HT4.out.small1; omega)).mono ?_
      rintro e y6 ⟨vp, pls, rfl, hp6, j6⟩
      have HP6 := Hid.mk_ hp6
      have HD6 : Hid (Dp.Keeps (fun _ => False) y3 y6) := HD5.out.next j6 (fun q hq e => by have := HT4.out.new1 q e; omega)
      have HDD6 := Hid.mk_ (HDD5.out.keep j6 (fun g hg e => HT4.out.apart g e hg))
      have hsd := Hid.mk_ HDD5.out.lt
      have hs6 := j6.size
      clear hp6 j6
      go_wp2_with fail
      refine (keepOver y6 _ DT 66 HDD6.out (by have := HT4.out.small2; omega)).mono ?_
      rintro e y7 ⟨vq, qls, rfl, hq7, j7⟩
      have HQ7 := Hid.mk_ hq7
      have HP7 := Hid.mk_ (HP6.out.keep j7 (fun g hg e => by have := HP6.out.new g hg; have := hsd.out g e; omega) (fun u hu g C hg _ e => by
        obtain ⟨_, _, _, hgb⟩ := HP6.out.each u hu
        rcases hgb g hg with h | h
        · have := hsd.out g e; omega
        · exact HT4.out.apart g h e))
      have HD7 : Hid (Dp.Keeps (fun _ => False) y3 y7) := HD6.out.next j7 (fun q hq e => by have := HT4.out.new2 q e; omega)
      clear hq7 j7 HP6 HDD6 HDD5 HCC5 HD6 HD5 hsd
      have HC7 := Hid.mk_ (HC3.out.trans HD7.out)
      have HM7 := Hid.mk_ (HM5.out.keep HC7.out (fun e => e) (fun _ _ e => e))
      go_wp2_with fail
      refine (progMWitness y7 b0 G vs m HM7.out).mono ?_
      rintro e y8 ⟨v8, rfl, ho8, _, j8⟩
      have HO8 := Hid.mk_ ho8
      have HC8 := Hid.mk_ (HC7.out.trans j8)
      have HJ8 := Hid.mk_ j8
      obtain ⟨v8a, v8c, ev8⟩ := ho8.isSlice
      subst ev8
      clear ho8 j8 HM7
      go_wp2_with fail
      refine (keepStill y8 gi _ l (HRL.out.keep HC8.out (fun e => e)) (HUB.out.still HC8.out) hl).mono ?_
      rintro e y9 ⟨rfl, j9⟩
      have HJ9 := Hid.mk_ (HJ8.out.trans j9)
      have HC9 := Hid.mk_ (HC8.out.trans j9)
      have HN9 := Hid.mk_ (HO8.out.keep j9 (fun _ _ e => e))
      have HX9 := Hid.mk_ (HX3.out.keep (HD7.out.trans HJ9.out) (fun _ _ e => e) (fun _ _ _ _ _ _ e => e))
      have HY9 := Hid.mk_ (HY3.out.keep (HD7.out.trans HJ9.out) (fun _ _ e => e) (fun _ _ _ _ _ _ e => e))
      have HP9 := Hid.mk_ (HP7.out.keep HJ9.out (fun _ _ e => e) (fun _ _ _ _ _ _ e => e))
      have HQ9 := Hid.mk_ (HQ7.out.keep HJ9.out (fun _ _ e => e) (fun _ _ _ _ _ _ e => e))
      clear j9 HX3 HY3 HP7 HQ7 HJ9 HJ8 HO8 HC8
      go_wp2_with fail
      refine (keepMarked _ _ y9 _ _ 63 _ HX9.out (by have := HX9.out.lenx; have := HTW.out.small1; have := HTW.out.small2; have := HT4.out.small1; have := HT4.out.small2; omega) (by have := HTW.out.small1; omega)).mono ?_
      rintro e z1 ⟨rfl, rfl⟩
      go_wp2_with fail
      refine (keepMarked _ _ _ _ _ 64 _ HY9.out (by have := HY9.out.lenx; have := HTW.out.small1; have := HTW.out.small2; have := HT4.out.small1; have := HT4.out.small2; omega) (by have := HTW.out.small2; omega)).mono ?_
      rintro e z2 ⟨rfl, rfl⟩
      go_wp2_with fail
      refine (keepMarked _ _ _ _ _ 65 _ HP9.out (by have := HP9.out.lenx; have := HTW.out.small1; have := HTW.out.small2; have := HT4.out.small1; have := HT4.out.small2; omega) (by have := HT4.out.small1; omega)).mono ?_
      rintro e z3 ⟨rfl, rfl⟩
      go_wp2_with fail
      refine (keepMarked _ _ _ _ _ 66 _ HQ9.out (by have := HQ9.out.lenx; have := HTW.out.small1; have := HTW.out.small2; have := HT4.out.small1; have := HT4.out.small2; omega) (by have := HT4.out.small2; omega)).mono ?_
      rintro e z4 ⟨rfl, rfl⟩
      have HM9 := Hid.mk_ (HM5.out.keep HC9.out (fun e => e) (fun _ _ e => e))
      go_wp2_with fail
      refine (progMStamp _ b0 G vs m HM9.out).mono ?_
      rintro e y10 ⟨rfl, j10⟩
      rw [HST.out]
      have HK10 := Hid.mk_ ((HK5.out.trans HC9.out).trans j10)
      have t1 := Dp.run_toStr (Dp.own_bytes (HN9.out.keep j10 (fun _ _ e => e)))
      have t2 := Dp.run_toStr (Dp.own_bytes (HW5.out.keep (HC9.out.trans j10) (fun _ _ e => e)))
      generalize Dp.str (Dp.witnessOf m) = sw at *
      clear j10 HX9 HY9 HP9 HQ9 HM9 HN9
      go_wp2
      go_ret
      exact ⟨rfl, HK10.out⟩
end Go.Proofs.YtdipojfngdceoaaGreatDoor

/- Whatever witness is shown: the walk. -/
namespace Go.Proofs.YtdipojfngdceoaaGreatDoor
open Go.RowKit

set_option maxRecDepth 100000 in
set_option maxHeartbeats 1000000 in
theorem keepSound (w : World) (eb : Addr) (v vt : Value) (raw : List Int) (texts : List (List UInt8)) (ahead : Int) (l : List UInt8) (he : Dp.ErrAt w eb) (hW : Dp.IntsW w v raw) (h64 : ∀ x ∈ raw, -9223372036854775808 ≤ x ∧ x ≤ 9223372036854775807) (hT : Dp.TextsW w vt texts) (ha : -9223372036854775808 ≤ ahead ∧ ahead ≤ 9223372036854775807) (hl : l.length ≤ 16777216) :
    Calls Tryz.prog 6 #[v, vt, .int .i64 ahead, .string (Dp.str l)] w fun e w' => e = .returned (.bool true) ∧ Dp.Keeps (fun _ => False) w w' := by
  have HE := Hid.mk_ he
  have HWI := Hid.mk_ hW
  have HTI := Hid.mk_ hT
  have H64 := Hid.mk_ h64
  clear he hW hT h64
  go_enter Tryz.func6, Tryz.ntmps6
  go_wp2_with fail
  refine (keepSure w eb HE.out).mono ?_
  rintro e w1 ⟨rfl, k1⟩
  have HK1 := Hid.mk_ k1
  clear k1
  go_wp2_with fail
  refine (keepOpened w1 v vt raw texts ahead (HWI.out.still HK1.out) H64.out (HTI.out.still HK1.out) ha).mono ?_
  rintro e w2 ⟨⟨b, vs, G, rfl, hb, hG, hM⟩, k2⟩
  have HM := Hid.mk_ hM
  have HK2 := Hid.mk_ (HK1.out.trans k2)
  clear hM k2 hG hb HK1
  go_wp2_with (refine Dp.wpList_toBytes rfl _ _ _ rfl Tryz.underlying9 Tryz.underlying47 Tryz.underlying5 l rfl (by unfold maxLen; omega) ?_)
  intro cap3 w3 hc3 z3 k3
  have HC3 := Hid.mk_ hc3.cutting
  have HK3 := Hid.mk_ (HK2.out.trans k3)
  have HM3 := Hid.mk_ (HM.out.keep k3 (fun e => e) (fun _ _ e => e))
  clear hc3 k3 z3 HM HK2
  go_wp2_with fail
  refine (keepLies w3 eb b G vs _ v vt raw texts ahead _ cap3 l (HE.out.keep HK3.out) HM3.out rfl (HWI.out.still HK3.out) H64.out (HTI.out.still HK3.out) ha HC3.out hl).mono ?_
  rintro e w4 ⟨rfl, k4⟩
  have HK4 := Hid.mk_ (HK3.out.trans k4)
  clear k4
  go_wp2
  go_ret
  exact ⟨rfl, HK4.out⟩
end Go.Proofs.YtdipojfngdceoaaGreatDoor

/- What arguments hold: the common part. -/
namespace Go.Proofs.YtdipojfngdceoaaGreatDoor
open Go.ChangeShapes Go.WideShapes Go.ChangeAt Go.RowKit

theorem cellsInt : Tryz.prog.cellsOf 3 = 1 := by kernel_rfl
theorem cellsStr : Tryz.prog.cellsOf 9 = 1 := by kernel_rfl
theorem cellsBool : Tryz.prog.cellsOf 4 = 1 := by kernel_rfl

namespace Dp
theorem exists_list {α : Type} {P : Nat → α → Prop} : ∀ n, (∀ i, i < n → ∃ o, P i o) → ∃ l : List α, l.length = n ∧ ∀ i (h : i < l.length), P i l[i]
  | 0, _ => ⟨[], rfl, fun i h => absurd h (by simp)⟩
  | n + 1, h => by
    obtain ⟨l, hl, hp⟩ := exists_list n (fun i hi => h i (by omega))
    obtain ⟨o, ho⟩ := h n (by omega)
    refine ⟨l ++ [o], by simp [hl], fun i hi => ?_⟩
    by_cases hin : i < l.length
    · rw [List.getElem_append_left hin]; exact hp i hin
    · have : i = n := by simp at hi; omega
      subst this
      rw [List.getElem_append_right (by omega)]; simpa [hl] using ho
theorem five {α : Type} {l : List α} (h : l.length = 5) : ∃ a b c d e, l = [a, b, c, d, e] := by
  match l, h with
  | [a, b, c, d, e], _ => exact ⟨a, b, c, d, e, rfl⟩
theorem add_off (b o i : Nat) : (⟨b, o, none⟩ : Addr).add i = ⟨b, o + i, none⟩ := by unfold Addr.add; split <;> simp_all
theorem add_add (a : Addr) (i j : Nat) : (a.add i).add j = a.add (i + j) := by
  unfold Addr.add
  by_cases hi : i = 0
  · subst hi; simp
  · by_cases hj : j = 0
    · subst hj; simp
    · rw [if_neg hj, if_neg hi, if_neg (show ¬ i + j = 0 by omega)]
      simp [Nat.add_assoc]
theorem mapM_at {α β : Type} {f : α → Option β} : ∀ (l : List α) (cs : List β), l.mapM f = some cs → ∀ j (h : j < l.length), f l[j] = cs[j]?
  | [], _, _, j, h => absurd h (by simp)
  | x :: l, cs, h, j, hj => by
    rw [List.mapM_cons] at h
    simp only [Option.bind_eq_bind, Option.bind_eq_some_iff] at h
    obtain ⟨y, hy, ys, hys, hcs⟩ := h
    have hcs' : cs = y :: ys := by simpa using hcs.symm
    subst hcs'
    cases j with
    | zero => exact hy
    | succ j => exact mapM_at l ys hys j (by simpa using hj)
theorem cells_at {w : World} {base : Nat} {a : Addr} {n : Nat} {cs : List Value} (h : w.cells? base a n = some cs) (j : Nat) (hj : j < n) : w.cell? (a.add j) = cs[j]? := by
  unfold World.cells? at h
  split at h
  · have := mapM_at _ _ h j (by simpa using hj)
    simpa using this
  · exact absurd h (by simp)
theorem bulkAll_length {H : Type} : ∀ l : List (DataW H), l.length ≤ Rows.uptoBulkAll l
  | [] => Nat.le_refl _
  | d :: l => by
    have := bulkAll_length l
    have h1 : 1 ≤ Rows.uptoBulk d := by
      cases d
      case lit x => cases x <;> simp only [Rows.uptoBulk] <;> omega
      all_goals (simp only [Rows.uptoBulk]; try omega)
    simp only [List.length_cons, Rows.uptoBulkAll]; omega
theorem bulkAll_mem {H : Type} {d : DataW H} : ∀ {l : List (DataW H)}, d ∈ l → Rows.uptoBulk d ≤ Rows.uptoBulkAll l
  | x :: l, h => by
    simp only [List.mem_cons] at h
    simp only [Rows.uptoBulkAll]
    rcases h with rfl | h
    · omega
    · have := bulkAll_mem h; omega
end Dp

end Go.Proofs.YtdipojfngdceoaaGreatDoor

/- What arguments hold, however great they are: a list of numbers, a list of texts. -/
namespace Go.Proofs.YtdipojfngdceoaaGreatDoor
open Go.ChangeShapes Go.WideShapes Go.ChangeAt Go.RowKit

section
variable {H : Type} {enc : TypeId × Value → H} {W : World} {fuel : Nat} {v : Value} {y : DataW H × List MemPlace}

theorem ints_wide (h : DataW.trod enc Tryz.prog W 0 (fun _ => true) true fuel 22 [v] = some y) (hp : ∀ x ∈ y.2, x.block < W.heap.size) :
    ∃ l, Dp.IntsW W v l ∧ ∀ x ∈ l, -9223372036854775808 ≤ x ∧ x ≤ 9223372036854775807 := by
  rcases open_ints Tryz.underlying22 Tryz.underlying3 cellsInt h with ⟨hcs, rfl⟩ | ⟨a, len, cap, zs, hcs, _, hl, hm, hz, rfl, hcell, hws⟩
  · obtain rfl : v = .slice none 0 0 := by simpa using hcs
    exact ⟨[], ⟨0, 0, none, 0, rfl, by simp [maxLen], fun e => absurd rfl e, fun i hi => absurd hi (by simp)⟩, fun x hx => by simp at hx⟩
  · obtain rfl : v = .slice (some a) len cap := by simpa using hcs
    simp only [if_true] at hz
    have hlen : (zs.take len).length = len := by simp; omega
    refine ⟨zs.take len, ?_, fun x hx => bounds_i64 (hws x (List.mem_of_mem_take hx))⟩
    by_cases h0 : len = 0
    · subst h0
      exact ⟨0, 0, some a, cap, by simp, by simp [maxLen], fun e => absurd (by simp) e, fun i hi => absurd hi (by simp)⟩
    · obtain ⟨b, off, spot⟩ := a
      have hspot : spot = none := by simpa [Addr.add] using World.cell?_spot (hcell 0 (by omega))
      subst hspot
      have hbW : b < W.heap.size := hp (.cell b off) (MemPlace.mem_row.2 ⟨0, by omega, by simp⟩)
      refine ⟨b, off, _, _, by rw [hlen], by omega, fun _ => ⟨rfl, hbW⟩, fun i hi => ?_⟩
      have hi' : i < len := by omega
      rw [← Dp.add_off, hcell i (by omega)]
      simp [List.getElem_take, List.getD_eq_getElem?_getD, List.getElem?_eq_getElem (show i < zs.length by omega)]

theorem texts_wide (h : DataW.trod enc Tryz.prog W 0 (fun _ => true) true fuel 34 [v] = some y) (hp : ∀ x ∈ y.2, x.block < W.heap.size) :
    ∃ l, Dp.TextsW W v l := by
  rcases open_strings Tryz.underlying34 Tryz.underlying9 cellsStr h with ⟨hcs, rfl⟩ | ⟨a, len, cap, ss, hcs, _, hl, hm, hz, rfl, hcell, hws⟩
  · obtain rfl : v = .slice none 0 0 := by simpa using hcs
    exact ⟨[], 0, 0, none, 0, rfl, by simp [maxLen], fun e => absurd rfl e, fun i hi => absurd hi (by simp)⟩
  · obtain rfl : v = .slice (some a) len cap := by simpa using hcs
    simp only [if_true] at hz
    have hlen : (ss.take len).length = len := by simp; omega
    have hsl : ∀ s ∈ ss.take len, s.data.toList.length ≤ maxLen := by
      intro s hs
      have := hws s (List.mem_of_mem_take hs)
      simpa using this
    refine ⟨(ss.take len).map (fun s => s.data.toList), ?_⟩
    by_cases h0 : len = 0
    · subst h0
      exact ⟨0, 0, some a, cap, by simp, by simp [maxLen], fun e => absurd (by simp) e, fun i hi => absurd hi (by simp)⟩
    · obtain ⟨b, off, spot⟩ := a
      have hspot : spot = none := by simpa [Addr.add] using World.cell?_spot (hcell 0 (by omega))
      subst hspot
      have hbW : b < W.heap.size := hp (.cell b off) (MemPlace.mem_row.2 ⟨0, by omega, by simp⟩)
      refine ⟨b, off, _, _, by rw [List.length_map, hlen], by rw [List.length_map]; omega, fun _ => ⟨rfl, hbW⟩, fun i hi => ?_⟩
      have hi' : i < len := by rw [List.length_map] at hi; omega
      refine ⟨?_, ?_⟩
      · rw [List.getElem_map]; exact hsl _ (List.getElem_mem _)
      · rw [← Dp.add_off, hcell i (by omega)]
        simp [Dp.str, List.getElem_take, List.getD_eq_getElem?_getD, List.getElem?_eq_getElem (show i < ss.length by omega)]
end
end Go.Proofs.YtdipojfngdceoaaGreatDoor

/- What the listed variable holds: the error that a witness is given up with. -/
namespace Go.Proofs.YtdipojfngdceoaaGreatDoor
open Go.ChangeShapes Go.WideShapes Go.RowKit

theorem gErr : Tryz.prog.globalNamed "deponent/parts.ErrWrong" = some 0 := by kernel_rfl
theorem tErrG : (Tryz.prog.globals[0]?).map (·.type) = some 160 := by kernel_rfl
theorem starErr : "*" ++ "errors.errorString" = "*errors.errorString" := by decide
theorem rowErr (u : TypeId) (h : Tryz.prog.typeName? 3 u = some "*errors.errorString") : u = 202 :=
  typeName_ptr_named (nm := "errors.errorString") (by rw [starErr]; kernel_rfl) (by kernel_rfl) (by decide) u (by rw [starErr]; exact h)

theorem cellsErrS : Tryz.prog.cellsOf 226 = 1 := by kernel_rfl
theorem cellsStrS : Tryz.prog.cellsOf 9 = 1 := by kernel_rfl

set_option maxRecDepth 100000 in
theorem err_of_laid {W : World} (h : laidMetH Tryz.prog [("deponent/parts.ErrWrong", Rows.laid_deponent_parts_ErrWrong)] W) : ∃ eb, Dp.ErrAt W eb := by
  have h' : laidMet Tryz.prog [("deponent/parts.ErrWrong", Rows.laid_deponent_parts_ErrWrong)] W := h
  obtain ⟨ps, ⟨g0, t0, cs0, f0, p0, q0, hg0, ht0, hv0, hd0, hq, e0⟩, hnd, hrows⟩ := h'
  obtain rfl := Option.some.inj (gErr.symm.trans hg0)
  obtain rfl := Option.some.inj (tErrG.symm.trans ht0)
  have hq' : q0 = [] := hq
  subst hq'
  subst e0
  obtain ⟨l0⟩ := cs0
  have ok0 : ∀ u v, l0 = [.iface u v] → Value.okWide Tryz.prog W .any 0 u v := fun u v e => by
    subst e
    exact (hrows 0 0 (by simp [MemPlace.row])).2 u v (by simpa using World.var?_cell hg0 hv0 0)
  obtain ⟨a0, s0, rfl, hc0, hs0, hz0, rfl⟩ := errorString_of_trod Tryz.underlying160 rowErr Tryz.underlying202 Tryz.underlying226 rfl rfl Tryz.underlying9 cellsErrS cellsStrS hd0 ok0
  exact ⟨a0, by have := World.var?_cell hg0 hv0 0; simpa [Dp.ErrAt] using this⟩
end Go.Proofs.YtdipojfngdceoaaGreatDoor
