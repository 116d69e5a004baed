/- Steps on the way: KeepLies, PureTwin, KeepTwin. -/
import Derived.Test.YtdipojfngdceoaaGreatDoorPack01
import Derived.Test.YtdipojfngdceoaaGreatDoorPack84
import Derived.Test.YtdipojfngdceoaaGreatDoorPack95
import Derived.Test.YtdipojfngdceoaaGreatDoorPack96
import Derived.Test.YtdipojfngdceoaaGreatDoorPack97
import Derived.Test.YtdipojfngdceoaaGreatDoorPack99
/- Is a witness of a wrong step shown to be one, time and again: the walk. -/
namespace Go.Proofs.YtdipojfngdceoaaGreatDoor
open Go.RowKit

namespace Dp
theorem Two.to {w w1 w2 : World} {a b : Value} {A B : List UInt8} (h : Two w w1 a b A B) (k : Keeps (fun _ => False) w1 w2) : Two w w2 a b A B :=
  ⟨h.own1.keep k (fun _ _ e => e), h.own2.keep k (fun _ _ e => e), h.ne, h.sum, h.new1, h.new2, h.apart, h.small1, h.small2⟩
end Dp

set_option maxRecDepth 100000 in
set_option maxHeartbeats 4000000 in
theorem keepLies (w : World) (eb : Addr) (b0 : Nat) (G : Nat → Prop) (vs : Value) (m : Dp.Mach) (v vt : Value) (raw : List Int) (texts : List (List UInt8)) (ahead : Int) (ad : Option Addr) (cap : Nat) (l : List UInt8) (he : Dp.ErrAt w eb) (hM : Dp.ProgM w b0 G vs m) (hm : Dp.openedMach raw texts ahead = m) (hW : Dp.IntsW w v raw) (h64 : ∀ x ∈ raw, -9223372036854775808 ≤ x ∧ x ≤ 9223372036854775807) (hT : Dp.TextsW w vt texts) (ha : -9223372036854775808 ≤ ahead ∧ ahead ≤ 9223372036854775807) (hc : Dp.Cutting w (.slice ad l.length cap) l) (hl : l.length ≤ 16777216) :
    Calls Tryz.prog 17 #[.pointer (some ⟨b0, 0, none⟩), v, vt, .int .i64 ahead, .slice ad l.length cap] w fun e w' => e = .returned (.bool true) ∧ Dp.Keeps (fun _ => False) w w' := by
  have HM := Hid.mk_ hM
  have HE := Hid.mk_ he
  have HWI := Hid.mk_ hW
  have HTI := Hid.mk_ hT
  have H64 := Hid.mk_ h64
  have HCU := Hid.mk_ hc
  have HMM := Hid.mk_ hm
  clear hM he hW hT h64 hc hm
  go_enter Tryz.func17, Tryz.ntmps17
  go_wp2_with fail
  refine (progMStamp w b0 G vs m HM.out).mono ?_
  rintro e w1 ⟨rfl, k1⟩
  go_wp2_with fail
  refine (progMWitness w1 b0 G vs m (HM.out.keep k1 (fun e => e) (fun _ _ e => e))).mono ?_
  rintro e w2 ⟨v2, rfl, ho2, _, k2⟩
  have HK2 := Hid.mk_ (k1.trans k2)
  have HW2 := Hid.mk_ ho2
  obtain ⟨v2a, v2c, ev2⟩ := ho2.isSlice
  subst ev2
  clear ho2 k1 k2
  go_wp2_with fail
  refine (progCheck w2 eb (Dp.stamp m.s (Dp.root m.cells)) ad cap l (HE.out.keep HK2.out) (HCU.out.still HK2.out) hl).mono ?_
  rintro e w3 ⟨rfl, k3⟩
  have HK3 := Hid.mk_ (HK2.out.trans k3)
  have HW3 := Hid.mk_ (HW2.out.keep k3 (fun _ _ e => e))
  clear k3 HK2 HW2
  generalize hS : Dp.stamp m.s (Dp.root m.cells) = S at *
  have HST := Hid.mk_ hS
  generalize hCC : Dp.checked S l = CC at *
  have HCC := Hid.mk_ hCC
  obtain ⟨C1, C2⟩ := CC
  generalize hME : m.step.2 = ME at *
  have HME := Hid.mk_ hME
  clear hS hCC hME
  go_wp2_with fail
  refine (keepLent w3 _ l (HCU.out.still HK3.out).bytes hl).mono ?_
  rintro e w5 ⟨rfl, r5, z5, k5⟩
  obtain ⟨gi, hgi⟩ : ∃ gi, gi = w3.heap.size := ⟨_, rfl⟩
  rw [← hgi] at r5 ⊢
  have HRL := Hid.mk_ r5
  have HK5 := Hid.mk_ (HK3.out.trans k5)
  have HW5 := Hid.mk_ (HW3.out.keep k5 (fun _ _ e => e))
  have HM5 := Hid.mk_ (HM.out.keep HK5.out (fun e => e) (fun _ _ e => e))
  have HE5 := Hid.mk_ (HE.out.keep HK5.out)
  have HUB := Hid.mk_ (HCU.out.still HK5.out).bytes
  have HCV : Hid (Dp.Cutting w5 (.slice (some ⟨gi, 0, none⟩) l.length (l.length + 2)) l) := by
    refine ⟨some ⟨gi, 0, none⟩, l.length + 2, rfl, by omega, by unfold maxLen; omega, fun _ => ⟨gi, 0, rfl, fun j hj => ?_⟩⟩
    rw [Nat.zero_add, HRL.out.cell]
    unfold Dp.lentCells
    rw [List.getElem?_append_left (by rw [Dp.vals_length]; exact hj)]
    simp [Dp.vals, hj]
  clear r5 z5 k5 hgi HK3 HW3 HM
  have hgl : (l.length : Int) ≤ (l.length : Int) + 2 := by omega
  have HDEF : Hid (Dp.collides m l ↔ (C2 = 0 ∧ ME ≠ 5 ∧ ¬ (ME = 0 ∧ Dp.stamp m.step.1.s (Dp.root m.step.1.cells) = C1))) := by
    unfold Hid Dp.collides
    rw [HST.out, HCC.out, HME.out]
  go_wp2_with fail
  refine (progMCollision w5 eb b0 G vs m HM5.out _ _ l HE5.out HCV.out hl).mono ?_
  rintro e w6 ⟨k6, ⟨hno, rfl⟩ | ⟨hyes, a, b, A, B, rfl, hT6⟩⟩
  · have HNO := Hid.mk_ hno
    have HK6 := Hid.mk_ k6
    clear hno k6
    go_wp2_with fail
    refine (keepStill w6 gi _ l (HRL.out.keep HK6.out (fun e => e)) (HUB.out.still HK6.out) hl).mono ?_
    rintro e w7 ⟨rfl, k7⟩
    have HK7 := Hid.mk_ ((HK5.out.trans HK6.out).trans k7)
    have HC7 := Hid.mk_ (HK6.out.trans k7)
    clear k7 HK6
    go_wp2_with fail
    refine (keepOpened w7 v vt raw texts ahead (HWI.out.still HK7.out) H64.out (HTI.out.still HK7.out) ha).mono ?_
    rintro e w8 ⟨⟨bt, vst, Gt, rfl, hbt, hGt, hMt⟩, k8⟩
    rw [HMM.out] at hMt
    have HMT := Hid.mk_ hMt
    have HK8 := Hid.mk_ (HK7.out.trans k8)
    have HC8 := Hid.mk_ (HC7.out.trans k8)
    have hbw : w.heap.size ≤ bt := by have := HK7.out.size; omega
    clear k8 hMt hbt hGt HK7 HC7
    go_wp2_with fail
    refine (progMStamp w8 b0 G vs m (HM5.out.keep HC8.out (fun e => e) (fun _ _ e => e))).mono ?_
    rintro e w9 ⟨rfl, k9⟩
    rw [HST.out]
    have HMT9 := Hid.mk_ (HMT.out.keep k9 (fun e => e) (fun _ _ e => e))
    have HK9 := Hid.mk_ (HK8.out.trans k9)
    clear k9 HMT HK8 HC8
    go_wp2_with fail
    refine (progMStamp w9 bt Gt vst m HMT9.out).mono ?_
    rintro e w10 ⟨rfl, k10⟩
    rw [HST.out]
    have HMT10 := Hid.mk_ (HMT9.out.keep k10 (fun e => e) (fun _ _ e => e))
    have HK10 := Hid.mk_ (HK9.out.trans k10)
    clear k10 HMT9 HK9
    go_wp2_with fail
    refine (progMStep w10 bt Gt vst m HMT10.out).mono ?_
    rintro e w11 ⟨rfl, k11, hM11⟩
    rw [HME.out]
    have HM11 := Hid.mk_ hM11
    have HK11 : Hid (Dp.Keeps (fun _ => False) w w11) := HK10.out.next k11 (fun q hq e => by omega)
    clear k11 hM11 HMT10 HK10
    by_cases c2 : C2 = 0
    · by_cases m5 : ME = 5
      · subst c2
        subst m5
        go_wp2
        go_ret
        exact ⟨rfl, HK11.out⟩
      · by_cases m0 : ME = 0
        · have hst : Dp.stamp m.step.1.s (Dp.root m.step.1.cells) = C1 := by
            by_cases h : Dp.stamp m.step.1.s (Dp.root m.step.1.cells) = C1
            · exact h
            · exact absurd (HDEF.out.2 ⟨c2, m5, fun hh => h hh.2⟩) HNO.out
          have HS1 := Hid.mk_ hst
          clear hst
          subst c2
          subst m0
          go_wp2_with fail
          refine (progMStamp w11 bt Gt vst _ HM11.out).mono ?_
          rintro e w12 ⟨rfl, k12⟩
          rw [HS1.out]
          have HK12 := Hid.mk_ (HK11.out.trans k12)
          clear k12
          go_wp2
          go_ret
          exact ⟨rfl, HK12.out⟩
        · exact absurd (HDEF.out.2 ⟨c2, m5, fun hh => m0 hh.1⟩) HNO.out
    · go_wp2
      go_ret
      exact ⟨rfl, HK11.out⟩
  · have HCOL := Hid.mk_ hyes
    have HTW6 := Hid.mk_ hT6
    have HK6 := Hid.mk_ k6
    obtain ⟨a1, a2, ea⟩ := hT6.own1.isSlice
    obtain ⟨b1, b2, ebb⟩ := hT6.own2.isSlice
    subst ea
    subst ebb
    clear hyes hT6 k6
    go_wp2_with fail
    refine (keepStill w6 gi _ l (HRL.out.keep HK6.out (fun e => e)) (HUB.out.still HK6.out) hl).mono ?_
    rintro e w7 ⟨rfl, k7⟩
    have HK7 := Hid.mk_ ((HK5.out.trans HK6.out).trans k7)
    have HC7 := Hid.mk_ (HK6.out.trans k7)
    have HTW0 := Hid.mk_ (HTW6.out.to k7)
    clear k7 HK6 HTW6
    go_wp2_with fail
    refine (keepOpened w7 v vt raw texts ahead (HWI.out.still HK7.out) H64.out (HTI.out.still HK7.out) ha).mono ?_
    rintro e w8 ⟨⟨bt, vst, Gt, rfl, hbt, hGt, hMt⟩, k8⟩
    rw [HMM.out] at hMt
    have HMT := Hid.mk_ hMt
    have HC8 := Hid.mk_ (HC7.out.trans k8)
    have HT8 := Hid.mk_ k8
    clear hMt hGt HK7
    go_wp2_with fail
    refine (progMStamp w8 b0 G vs m (HM5.out.keep HC8.out (fun e => e) (fun _ _ e => e))).mono ?_
    rintro e w9 ⟨rfl, k9⟩
    rw [HST.out]
    have HMT9 := Hid.mk_ (HMT.out.keep k9 (fun e => e) (fun _ _ e => e))
    have HC9a := Hid.mk_ (HC8.out.trans k9)
    have HT9 := Hid.mk_ (HT8.out.trans k9)
    clear k9 HMT HC8 HT8 k8
    go_wp2_with fail
    refine (progMStamp w9 bt Gt vst m HMT9.out).mono ?_
    rintro e w10 ⟨rfl, k10⟩
    rw [HST.out]
    have HMT10 := Hid.mk_ (HMT9.out.keep k10 (fun e => e) (fun _ _ e => e))
    have HC10 := Hid.mk_ (HC9a.out.trans k10)
    have HT10 := Hid.mk_ (HT9.out.trans k10)
    clear k10 HMT9 HC9a HT9
    go_wp2_with fail
    refine (progMStep w10 bt Gt vst m HMT10.out).mono ?_
    rintro e w11 ⟨rfl, k11, hM11⟩
    rw [HME.out]
    have HM11 := Hid.mk_ hM11
    have hs7 := HC7.out.size
    have HC11 : Hid (Dp.Keeps (fun _ => False) w5 w11) := HC10.out.next k11 (fun q hq e => by omega)
    have HT11 : Hid (Dp.Keeps (fun _ => False) w7 w11) := HT10.out.next k11 (fun q hq e => by omega)
    clear k11 hM11 HMT10 HC10 HT10 hbt
    obtain ⟨c2, m5, hd⟩ := HDEF.out.1 HCOL.out
    by_cases m0 : ME = 0
    · have hne : C1 ≠ Dp.stamp m.step.1.s (Dp.root m.step.1.cells) := fun e => hd ⟨m0, e.symm⟩
      have HNE := Hid.mk_ hne
      clear hne hd
      subst c2
      subst m0
      go_wp2_with fail
      refine (progMStamp w11 bt Gt vst _ HM11.out).mono ?_
      rintro e w12 ⟨rfl, k12⟩
      have hne := HNE.out
      generalize Dp.stamp m.step.1.s (Dp.root m.step.1.cells) = S1 at *
      have hbn : (C1 != S1) = true := by simpa using hne
      clear hne HNE
      have HC := Hid.mk_ (HC11.out.trans k12)
      have HKT := Hid.mk_ (HT11.out.trans k12)
      clear k12 HC11 HT11 HM11
      have HTW := Hid.mk_ (HTW0.out.to HKT.out)
      go_wp2_with fail
      refine (keepShown _ _ _ A B (Dp.own_bytes HTW.out.own1) (Dp.own_bytes HTW.out.own2) HTW.out.ne HTW.out.sum).mono ?_
      rintro e y1 ⟨rfl, j1⟩
      have HA1 := Hid.mk_ (HTW.out.own1.keep j1 (fun _ _ e => e))
      have HB1 := Hid.mk_ (HTW.out.own2.keep j1 (fun _ _ e => e))
      have HC1 := Hid.mk_ (HC.out.trans j1)
      have hs1 : w5.heap.size ≤ y1.heap.size := HC1.out.size
      clear j1
      go_wp2_with fail
      refine (keepOver y1 _ A 63 HA1.out (by have := HTW.out.small1; omega)).mono ?_
      rintro e y2 ⟨vx, xls, rfl, hx2, j2⟩
      have HX2 := Hid.mk_ hx2
      have HC2 : Hid (Dp.Keeps (fun _ => False) w5 y2) := HC1.out.next j2 (fun q hq e => by have := HTW.out.new1 q e; omega)
      have HB2 := Hid.mk_ (HB1.out.keep j2 (fun g hg e => HTW.out.apart g e hg))
      have hsb := Hid.mk_ HB1.out.lt
      have hs2 := j2.size
      clear hx2 j2
      go_wp2_with fail
      refine (keepOver y2 _ B 64 HB2.out (by have := HTW.out.small2; omega)).mono ?_
      rintro e y3 ⟨vy, yls, rfl, hy3, j3⟩
      have HY3 := Hid.mk_ hy3
      have HX3 := Hid.mk_ (HX2.out.keep j3 (fun g hg e => by have := HX2.out.new g hg; have := hsb.out g e; omega) (fun u hu g C hg _ e => by
        obtain ⟨_, _, _, hgb⟩ := HX2.out.each u hu
        rcases hgb g hg with h | h
        · have := hsb.out g e; omega
        · exact HTW.out.apart g h e))
      have HC3 : Hid (Dp.Keeps (fun _ => False) w5 y3) := HC2.out.next j3 (fun q hq e => by have := HTW.out.new2 q e; omega)
      clear hy3 j3 HX2 HB2 HA1 HB1 HC2 HC1 hsb
      have HM3 := Hid.mk_ (HM5.out.keep HC3.out (fun e => e) (fun _ _ e => e))
      have HCV3 := Hid.mk_ (HCV.out.still HC3.out)
      have he3 := Hid.mk_ (HE5.out.keep HC3.out)
      go_wp2_with fail
      refine (progMCollision y3 eb b0 G vs m HM3.out _ _ l he3.out HCV3.out hl).mono ?_
      rintro e y4 ⟨j4, ⟨hno, _⟩ | ⟨_, c, d, CT, DT, rfl, hT4⟩⟩
      · exact absurd HCOL.out hno
      have HT4 := Hid.mk_ hT4
      have HD4 := Hid.mk_ j4
      have hs4 := j4.size
      clear hT4 j4 HM3 HCV3 he3
      obtain ⟨c1, c2, ec⟩ := HT4.out.own1.isSlice
      obtain ⟨d1, d2, ed⟩ := HT4.out.own2.isSlice
      subst ec
      subst ed
      go_wp2_with fail
      refine (keepShown _ _ _ CT DT (Dp.own_bytes HT4.out.own1) (Dp.own_bytes HT4.out.own2) HT4.out.ne HT4.out.sum).mono ?_
      rintro e y5 ⟨rfl, j5⟩
      have HCC5 := Hid.mk_ (HT4.out.own1.keep j5 (fun _ _ e => e))
      have HDD5 := Hid.mk_ (HT4.out.own2.keep j5 (fun _ _ e => e))
      have HD5 := Hid.mk_ (HD4.out.trans j5)
      have hs5 := j5.size
      clear j5
      go_wp2_with fail
      refine (keepOver y5 _ CT 65 HCC5.out (by have := HT4.out.small1; omega)).mono ?_
      rintro e y6 ⟨vp, pls, rfl, hp6, j6⟩
      have HP6 := Hid.mk_ hp6
      have HD6 : Hid (Dp.Keeps (fun _ => False) y3 y6) := HD5.out.next j6 (fun q hq e => by have := HT4.out.new1 q e; omega)
      have HDD6 := Hid.mk_ (HDD5.out.keep j6 (fun g hg e => HT4.out.apart g e hg))
      have hsd := Hid.mk_ HDD5.out.lt
      have hs6 := j6.size
      clear hp6 j6
      go_wp2_with fail
      refine (keepOver y6 _ DT 66 HDD6.out (by have := HT4.out.small2; omega)).mono ?_
      rintro e y7 ⟨vq, qls, rfl, hq7, j7⟩
      have HQ7 := Hid.mk_ hq7
      have HP7 := Hid.mk_ (HP6.out.keep j7 (fun g hg e => by have := HP6.out.new g hg; have := hsd.out g e; omega) (fun u hu g C hg _ e => by
        obtain ⟨_, _, _, hgb⟩ := HP6.out.each u hu
        rcases hgb g hg with h | h
        · have := hsd.out g e; omega
        · exact HT4.out.apart g h e))
      have HD7 : Hid (Dp.Keeps (fun _ => False) y3 y7) := HD6.out.next j7 (fun q hq e => by have := HT4.out.new2 q e; omega)
      clear hq7 j7 HP6 HDD6 HDD5 HCC5 HD6 HD5 hsd
      have HC7 := Hid.mk_ (HC3.out.trans HD7.out)
      have HM7 := Hid.mk_ (HM5.out.keep HC7.out (fun e => e) (fun _ _ e => e))
      go_wp2_with fail
      refine (progMWitness y7 b0 G vs m HM7.out).mono ?_
      rintro e y8 ⟨v8, rfl, ho8, _, j8⟩
      have HO8 := Hid.mk_ ho8
      have HC8 := Hid.mk_ (HC7.out.trans j8)
      have HJ8 := Hid.mk_ j8
      obtain ⟨v8a, v8c, ev8⟩ := ho8.isSlice
      subst ev8
      clear ho8 j8 HM7
      go_wp2_with fail
      refine (keepStill y8 gi _ l (HRL.out.keep HC8.out (fun e => e)) (HUB.out.still HC8.out) hl).mono ?_
      rintro e y9 ⟨rfl, j9⟩
      have HJ9 := Hid.mk_ (HJ8.out.trans j9)
      have HC9 := Hid.mk_ (HC8.out.trans j9)
      have HN9 := Hid.mk_ (HO8.out.keep j9 (fun _ _ e => e))
      have HX9 := Hid.mk_ (HX3.out.keep (HD7.out.trans HJ9.out) (fun _ _ e => e) (fun _ _ _ _ _ _ e => e))
      have HY9 := Hid.mk_ (HY3.out.keep (HD7.out.trans HJ9.out) (fun _ _ e => e) (fun _ _ _ _ _ _ e => e))
      have HP9 := Hid.mk_ (HP7.out.keep HJ9.out (fun _ _ e => e) (fun _ _ _ _ _ _ e => e))
      have HQ9 := Hid.mk_ (HQ7.out.keep HJ9.out (fun _ _ e => e) (fun _ _ _ _ _ _ e => e))
      clear j9 HX3 HY3 HP7 HQ7 HJ9 HJ8 HO8 HC8
      go_wp2_with fail
      refine (keepMarked _ _ y9 _ _ 63 _ HX9.out (by have := HX9.out.lenx; have := HTW.out.small1; have := HTW.out.small2; have := HT4.out.small1; have := HT4.out.small2; omega) (by have := HTW.out.small1; omega)).mono ?_
      rintro e z1 ⟨rfl, rfl⟩
      go_wp2_with fail
      refine (keepMarked _ _ _ _ _ 64 _ HY9.out (by have := HY9.out.lenx; have := HTW.out.small1; have := HTW.out.small2; have := HT4.out.small1; have := HT4.out.small2; omega) (by have := HTW.out.small2; omega)).mono ?_
      rintro e z2 ⟨rfl, rfl⟩
      go_wp2_with fail
      refine (keepMarked _ _ _ _ _ 65 _ HP9.out (by have := HP9.out.lenx; have := HTW.out.small1; have := HTW.out.small2; have := HT4.out.small1; have := HT4.out.small2; omega) (by have := HT4.out.small1; omega)).mono ?_
      rintro e z3 ⟨rfl, rfl⟩
      go_wp2_with fail
      refine (keepMarked _ _ _ _ _ 66 _ HQ9.out (by have := HQ9.out.lenx; have := HTW.out.small1; have := HTW.out.small2; have := HT4.out.small1; have := HT4.out.small2; omega) (by have := HT4.out.small2; omega)).mono ?_
      rintro e z4 ⟨rfl, rfl⟩
      have HM9 := Hid.mk_ (HM5.out.keep HC9.out (fun e => e) (fun _ _ e => e))
      go_wp2_with fail
      refine (progMStamp _ b0 G vs m HM9.out).mono ?_
      rintro e y10 ⟨rfl, j10⟩
      rw [HST.out]
      have HK10 := Hid.mk_ ((HK5.out.trans HC9.out).trans j10)
      have t1 := Dp.run_toStr (Dp.own_bytes (HN9.out.keep j10 (fun _ _ e => e)))
      have t2 := Dp.run_toStr (Dp.own_bytes (HW5.out.keep (HC9.out.trans j10) (fun _ _ e => e)))
      generalize Dp.str (Dp.witnessOf m) = sw at *
      clear j10 HX9 HY9 HP9 HQ9 HM9 HN9
      go_wp2
      go_ret
      exact ⟨rfl, HK10.out⟩
    · clear hd
      subst c2
      have hb5 : (ME != 5) = true := by simpa using m5
      have hb0 : (ME != 0) = true := by simpa using m0
      have HC := HC11
      have HKT := HT11
      clear HC11 HT11 HM11
      have HTW := Hid.mk_ (HTW0.out.to HKT.out)
      go_wp2_with fail
      refine (keepShown _ _ _ A B (Dp.own_bytes HTW.out.own1) (Dp.own_bytes HTW.out.own2) HTW.out.ne HTW.out.sum).mono ?_
      rintro e y1 ⟨rfl, j1⟩
      have HA1 := Hid.mk_ (HTW.out.own1.keep j1 (fun _ _ e => e))
      have HB1 := Hid.mk_ (HTW.out.own2.keep j1 (fun _ _ e => e))
      have HC1 := Hid.mk_ (HC.out.trans j1)
      have hs1 : w5.heap.size ≤ y1.heap.size := HC1.out.size
      clear j1
      go_wp2_with fail
      refine (keepOver y1 _ A 63 HA1.out (by have := HTW.out.small1; omega)).mono ?_
      rintro e y2 ⟨vx, xls, rfl, hx2, j2⟩
      have HX2 := Hid.mk_ hx2
      have HC2 : Hid (Dp.Keeps (fun _ => False) w5 y2) := HC1.out.next j2 (fun q hq e => by have := HTW.out.new1 q e; omega)
      have HB2 := Hid.mk_ (HB1.out.keep j2 (fun g hg e => HTW.out.apart g e hg))
      have hsb := Hid.mk_ HB1.out.lt
      have hs2 := j2.size
      clear hx2 j2
      go_wp2_with fail
      refine (keepOver y2 _ B 64 HB2.out (by have := HTW.out.small2; omega)).mono ?_
      rintro e y3 ⟨vy, yls, rfl, hy3, j3⟩
      have HY3 := Hid.mk_ hy3
      have HX3 := Hid.mk_ (HX2.out.keep j3 (fun g hg e => by have := HX2.out.new g hg; have := hsb.out g e; omega) (fun u hu g C hg _ e => by
        obtain ⟨_, _, _, hgb⟩ := HX2.out.each u hu
        rcases hgb g hg with h | h
        · have := hsb.out g e; omega
        · exact HTW.out.apart g h e))
      have HC3 : Hid (Dp.Keeps (fun _ => False) w5 y3) := HC2.out.next j3 (fun q hq e => by have := HTW.out.new2 q e; omega)
      clear hy3 j3 HX2 HB2 HA1 HB1 HC2 HC1 hsb
      have HM3 := Hid.mk_ (HM5.out.keep HC3.out (fun e => e) (fun _ _ e => e))
      have HCV3 := Hid.mk_ (HCV.out.still HC3.out)
      have he3 := Hid.mk_ (HE5.out.keep HC3.out)
      go_wp2_with fail
      refine (progMCollision y3 eb b0 G vs m HM3.out _ _ l he3.out HCV3.out hl).mono ?_
      rintro e y4 ⟨j4, ⟨hno, _⟩ | ⟨_, c, d, CT, DT, rfl, hT4⟩⟩
      · exact absurd HCOL.out hno
      have HT4 := Hid.mk_ hT4
      have HD4 := Hid.mk_ j4
      have hs4 := j4.size
      clear hT4 j4 HM3 HCV3 he3
      obtain ⟨c1, c2, ec⟩ := HT4.out.own1.isSlice
      obtain ⟨d1, d2, ed⟩ := HT4.out.own2.isSlice
      subst ec
      subst ed
      go_wp2_with fail
      refine (keepShown _ _ _ CT DT (Dp.own_bytes HT4.out.own1) (Dp.own_bytes HT4.out.own2) HT4.out.ne HT4.out.sum).mono ?_
      rintro e y5 ⟨rfl, j5⟩
      have HCC5 := Hid.mk_ (HT4.out.own1.keep j5 (fun _ _ e => e))
      have HDD5 := Hid.mk_ (HT4.out.own2.keep j5 (fun _ _ e => e))
      have HD5 := Hid.mk_ (HD4.out.trans j5)
      have hs5 := j5.size
      clear j5
      go_wp2_with fail
      refine (keepOver y5 _ CT 65 HCC5.out (by have := HT4.out.small1; omega)).mono ?_
      rintro e y6 ⟨vp, pls, rfl, hp6, j6⟩
      have HP6 := Hid.mk_ hp6
      have HD6 : Hid (Dp.Keeps (fun _ => False) y3 y6) := HD5.out.next j6 (fun q hq e => by have := HT4.out.new1 q e; omega)
      have HDD6 := Hid.mk_ (HDD5.out.keep j6 (fun g hg e => HT4.out.apart g e hg))
      have hsd := Hid.mk_ HDD5.out.lt
      have hs6 := j6.size
      clear hp6 j6
      go_wp2_with fail
      refine (keepOver y6 _ DT 66 HDD6.out (by have := HT4.out.small2; omega)).mono ?_
      rintro e y7 ⟨vq, qls, rfl, hq7, j7⟩
      have HQ7 := Hid.mk_ hq7
      have HP7 := Hid.mk_ (HP6.out.keep j7 (fun g hg e => by have := HP6.out.new g hg; have := hsd.out g e; omega) (fun u hu g C hg _ e => by
        obtain ⟨_, _, _, hgb⟩ := HP6.out.each u hu
        rcases hgb g hg with h | h
        · have := hsd.out g e; omega
        · exact HT4.out.apart g h e))
      have HD7 : Hid (Dp.Keeps (fun _ => False) y3 y7) := HD6.out.next j7 (fun q hq e => by have := HT4.out.new2 q e; omega)
      clear hq7 j7 HP6 HDD6 HDD5 HCC5 HD6 HD5 hsd
      have HC7 := Hid.mk_ (HC3.out.trans HD7.out)
      have HM7 := Hid.mk_ (HM5.out.keep HC7.out (fun e => e) (fun _ _ e => e))
      go_wp2_with fail
      refine (progMWitness y7 b0 G vs m HM7.out).mono ?_
      rintro e y8 ⟨v8, rfl, ho8, _, j8⟩
      have HO8 := Hid.mk_ ho8
      have HC8 := Hid.mk_ (HC7.out.trans j8)
      have HJ8 := Hid.mk_ j8
      obtain ⟨v8a, v8c, ev8⟩ := ho8.isSlice
      subst ev8
      clear ho8 j8 HM7
      go_wp2_with fail
      refine (keepStill y8 gi _ l (HRL.out.keep HC8.out (fun e => e)) (HUB.out.still HC8.out) hl).mono ?_
      rintro e y9 ⟨rfl, j9⟩
      have HJ9 := Hid.mk_ (HJ8.out.trans j9)
      have HC9 := Hid.mk_ (HC8.out.trans j9)
      have HN9 := Hid.mk_ (HO8.out.keep j9 (fun _ _ e => e))
      have HX9 := Hid.mk_ (HX3.out.keep (HD7.out.trans HJ9.out) (fun _ _ e => e) (fun _ _ _ _ _ _ e => e))
      have HY9 := Hid.mk_ (HY3.out.keep (HD7.out.trans HJ9.out) (fun _ _ e => e) (fun _ _ _ _ _ _ e => e))
      have HP9 := Hid.mk_ (HP7.out.keep HJ9.out (fun _ _ e => e) (fun _ _ _ _ _ _ e => e))
      have HQ9 := Hid.mk_ (HQ7.out.keep HJ9.out (fun _ _ e => e) (fun _ _ _ _ _ _ e => e))
      clear j9 HX3 HY3 HP7 HQ7 HJ9 HJ8 HO8 HC8
      go_wp2_with fail
      refine (keepMarked _ _ y9 _ _ 63 _ HX9.out (by have := HX9.out.lenx; have := HTW.out.small1; have := HTW.out.small2; have := HT4.out.small1; have := HT4.out.small2; omega) (by have := HTW.out.small1; omega)).mono ?_
      rintro e z1 ⟨rfl, rfl⟩
      go_wp2_with fail
      refine (keepMarked _ _ _ _ _ 64 _ HY9.out (by have := HY9.out.lenx; have := HTW.out.small1; have := HTW.out.small2; have := HT4.out.small1; have := HT4.out.small2; omega) (by have := HTW.out.small2; omega)).mono ?_
      rintro e z2 ⟨rfl, rfl⟩
      go_wp2_with fail
      refine (keepMarked _ _ _ _ _ 65 _ HP9.out (by have := HP9.out.lenx; have := HTW.out.small1; have := HTW.out.small2; have := HT4.out.small1; have := HT4.out.small2; omega) (by have := HT4.out.small1; omega)).mono ?_
      rintro e z3 ⟨rfl, rfl⟩
      go_wp2_with fail
      refine (keepMarked _ _ _ _ _ 66 _ HQ9.out (by have := HQ9.out.lenx; have := HTW.out.small1; have := HTW.out.small2; have := HT4.out.small1; have := HT4.out.small2; omega) (by have := HT4.out.small2; omega)).mono ?_
      rintro e z4 ⟨rfl, rfl⟩
      have HM9 := Hid.mk_ (HM5.out.keep HC9.out (fun e => e) (fun _ _ e => e))
      go_wp2_with fail
      refine (progMStamp _ b0 G vs m HM9.out).mono ?_
      rintro e y10 ⟨rfl, j10⟩
      rw [HST.out]
      have HK10 := Hid.mk_ ((HK5.out.trans HC9.out).trans j10)
      have t1 := Dp.run_toStr (Dp.own_bytes (HN9.out.keep j10 (fun _ _ e => e)))
      have t2 := Dp.run_toStr (Dp.own_bytes (HW5.out.keep (HC9.out.trans j10) (fun _ _ e => e)))
      generalize Dp.str (Dp.witnessOf m) = sw at *
      clear j10 HX9 HY9 HP9 HQ9 HM9 HN9
      go_wp2
      go_ret
      exact ⟨rfl, HK10.out⟩
end Go.Proofs.YtdipojfngdceoaaGreatDoor

/- Of four bytes, the first one given, the last three can be found for any sum, and in two ways. No program is named here. -/
namespace Go.Proofs.YtdipojfngdceoaaGreatDoor
namespace Dp
/-- The last byte that is wanted, for the second and the third. -/
def lastOf (want u x y : Int) : Int := (want - 1 - 257 * ((257 * ((257 * u + x + 1) % 65521) + y + 1) % 65521)) % 65521
def twinOf (first x y z : Int) : Int := first * 16777216 + x * 65536 + y * 256 + z
/-- One of two neighbours has a third and a last byte. -/
theorem twin_near (want u x : Int) (hx : 0 ≤ x ∧ x < 256) : (∃ y, 0 ≤ y ∧ y < 256 ∧ lastOf want u x y < 256) ∨ ∃ y, 0 ≤ y ∧ y < 256 ∧ lastOf want u (x + 1) y < 256 := by
  have key : ∀ x : Int, 0 ≤ x → ∀ t : Int, t = (want - 1 - 257 * (257 * (257 * u + x + 1) + 1)) % 65521 → ¬ t % 257 = 256 → ∃ y, 0 ≤ y ∧ y < 256 ∧ lastOf want u x y < 256 := by
    intro x hx t ht hne
    refine ⟨t / 257, by omega, by omega, ?_⟩
    have e : lastOf want u x (t / 257) = (t - 257 * (t / 257)) % 65521 := by
      unfold lastOf
      subst ht
      omega
    rw [e]
    omega
  by_cases h : (want - 1 - 257 * (257 * (257 * u + x + 1) + 1)) % 65521 % 257 = 256
  · refine .inr (key (x + 1) (by omega) _ rfl ?_)
    omega
  · exact .inl (key x hx.1 _ rfl h)
/-- There is a twin that is another number than w. -/
theorem twin_there (want u first w : Int) : ∃ x y : Nat, x < 256 ∧ y < 256 ∧ lastOf want u x y < 256 ∧ twinOf first x y (lastOf want u x y) ≠ w := by
  have near : ∀ x : Nat, x < 255 → ∃ a y : Nat, (a = x ∨ a = x + 1) ∧ y < 256 ∧ lastOf want u a y < 256 := by
    intro x hx
    rcases twin_near want u x (by omega) with ⟨y, h1, h2, h3⟩ | ⟨y, h1, h2, h3⟩
    · refine ⟨x, y.toNat, .inl rfl, by omega, ?_⟩
      rw [Int.toNat_of_nonneg h1]; exact h3
    · refine ⟨x + 1, y.toNat, .inr rfl, by omega, ?_⟩
      rw [Int.toNat_of_nonneg h1]; push_cast; exact h3
  obtain ⟨a, y1, ha, hy1, h1⟩ := near 0 (by omega)
  obtain ⟨b, y2, hb, hy2, h2⟩ := near 2 (by omega)
  by_cases e : twinOf first a y1 (lastOf want u a y1) = w
  · refine ⟨b, y2, by omega, hy2, h2, fun e2 => ?_⟩
    have l1 : 0 ≤ lastOf want u a y1 := by unfold lastOf; omega
    have l2 : 0 ≤ lastOf want u b y2 := by unfold lastOf; omega
    rw [← e] at e2
    unfold twinOf at e2
    generalize lastOf want u a y1 = z1 at *
    generalize lastOf want u b y2 = z2 at *
    omega
  · exact ⟨a, y1, by omega, hy1, h1, e⟩
theorem byteOf_small (n : Int) (h : 0 ≤ n ∧ n < 256) : ((byteOf n).toNat : Int) = n := by
  unfold byteOf
  rw [UInt8.toNat_ofNat']
  omega
/-- Twins have one sum. -/
theorem twin_sum (w : Int) (first x y : Nat) (hf : first < 256) (hx : x < 256) (hy : y < 256) (hl : lastOf (sum (0 :: four w)) (sum [0, byteOf first]) x y < 256) :
    isWord (twinOf first x y (lastOf (sum (0 :: four w)) (sum [0, byteOf first]) x y)) ∧ sum (0 :: four (twinOf first x y (lastOf (sum (0 :: four w)) (sum [0, byteOf first]) x y))) = sum (0 :: four w) := by
  have hb := sum_bd (0 :: four w)
  generalize sum (0 :: four w) = want at *
  have hz : 0 ≤ lastOf want (sum [0, byteOf first]) x y := by unfold lastOf; omega
  have hu : sum [0, byteOf first] = (1800 * 257 + (first : Int) + 1) % 65521 := by
    show sumStep (sumStep 7 0) (byteOf first) = _
    unfold sumStep
    rw [byteOf_small _ (by omega)]
    rfl
  generalize hL : lastOf want (sum [0, byteOf first]) x y = z at *
  refine ⟨by unfold isWord twinOf; omega, ?_⟩
  have b1 : twinOf first x y z / 65536 / 256 % 256 = first := by unfold twinOf; omega
  have b2 : twinOf first x y z / 65536 % 256 = x := by unfold twinOf; omega
  have b3 : twinOf first x y z % 65536 / 256 % 256 = y := by unfold twinOf; omega
  have b4 : twinOf first x y z % 65536 % 256 = z := by unfold twinOf; omega
  show sumStep (sumStep (sumStep (sumStep (sumStep 7 0) (byteOf (twinOf first x y z / 65536 / 256 % 256))) (byteOf (twinOf first x y z / 65536 % 256))) (byteOf (twinOf first x y z % 65536 / 256 % 256))) (byteOf (twinOf first x y z % 65536 % 256)) = want
  rw [b1, b2, b3, b4]
  unfold sumStep
  rw [byteOf_small _ (by omega), byteOf_small _ (by omega), byteOf_small _ (by omega), byteOf_small _ (by omega)]
  have h0 : ((0 : UInt8).toNat : Int) = 0 := rfl
  rw [h0]
  unfold lastOf at hL
  rw [hu] at hL
  omega
end Dp
end Go.Proofs.YtdipojfngdceoaaGreatDoor

/- A word's twin, found: the walk. -/
namespace Go.Proofs.YtdipojfngdceoaaGreatDoor
open Go.RowKit

namespace Dp
/-- Up to this place no twin was found. -/
def NoTwin (want u first w : Int) (x y : Nat) : Prop := ∀ a b : Nat, a < 256 → b < 256 → (a < x ∨ a = x ∧ b < y) → ¬ (lastOf want u a b < 256 ∧ twinOf first a b (lastOf want u a b) ≠ w)
theorem NoTwin.more {want u first w : Int} {x y : Nat} (h : NoTwin want u first w x y) (hn : ¬ (lastOf want u x y < 256 ∧ twinOf first x y (lastOf want u x y) ≠ w)) : NoTwin want u first w x (y + 1) := by
  intro a b ha hb hab
  by_cases e : a = x ∧ b = y
  · obtain ⟨rfl, rfl⟩ := e; exact hn
  · exact h a b ha hb (by omega)
theorem tmod_fix (D : Int) : (if D.tmod 65521 < 0 then D.tmod 65521 + 65521 else D.tmod 65521) = D % 65521 := by
  rw [Int.tmod_eq_emod]
  split <;> split <;> omega
/-- What twin answers. -/
structure IsTwin (w : Int) (first : Nat) (n : Int) : Prop where
  word : isWord n
  ne : n ≠ w
  sum : sum (0 :: four n) = sum (0 :: four w)
theorem byte_parts (w : World) (cs : List Value) (l : List UInt8) (h : cs = vals l) (hl : l.length ≤ 16777216) : Parts ((w.alloc (.cells cs.toArray 5)).alloc (.cells #[.slice (some ⟨w.heap.size, 0, none⟩) l.length l.length] 47)) (.slice (some ⟨w.heap.size + 1, 0, none⟩) 1 1) [l] := by
  subst h
  have r1 := Row.allocNew w 5 (vals l)
  have r2 := r1.allocOld (.cells #[.slice (some ⟨w.heap.size, 0, none⟩) l.length l.length] 47)
  have r3 : Row ((w.alloc (.cells (vals l).toArray 5)).alloc (.cells #[.slice (some ⟨w.heap.size, 0, none⟩) l.length l.length] 47)) (w.alloc (.cells (vals l).toArray 5)).heap.size 47 [.slice (some ⟨w.heap.size, 0, none⟩) l.length l.length] := Row.allocNew _ 47 [.slice (some ⟨w.heap.size, 0, none⟩) l.length l.length]
  rw [show (w.alloc (.cells (vals l).toArray 5)).heap.size = w.heap.size + 1 by simp] at r3
  refine ⟨w.heap.size + 1, 0, _, 1, rfl, by simp [maxLen], fun _ => rfl, fun i hi => ?_⟩
  obtain rfl : i = 0 := by simp at hi; exact hi
  refine ⟨_, r3.cell 0, w.heap.size, 0, _, l.length, rfl, by show l.length ≤ maxLen; unfold maxLen; omega, fun _ => rfl, fun j hj => ?_⟩
  have hj' : j < l.length := hj
  rw [Nat.zero_add, r2.cell]
  simp [vals, hj']
end Dp
def lastOfX (want u : Int) (x y : Nat) (first : Nat) (n : Int) : Prop := Dp.lastOf want u x y < 256 ∧ Dp.twinOf first x y (Dp.lastOf want u x y) ≠ n

set_option maxRecDepth 100000 in
set_option maxHeartbeats 2000000 in
theorem keepTwin (w : World) (n : Int) (first : Nat) (hn : Dp.isWord n) (hf : first < 256) :
    Calls Tryz.prog 19 #[.int .i64 n, .int .i64 first] w fun e w' => (∃ t, e = .returned (.int .i64 t) ∧ Dp.IsTwin n first t) ∧ Dp.Keeps (fun _ => False) w w' := by
  have hn' := hn
  unfold Dp.isWord at hn'
  have hf' : (first : Int) < 256 := by omega
  have hf0 : (0 : Int) ≤ first := by omega
  go_enter Tryz.func19, Tryz.ntmps19
  go_wp2_with fail
  have hcs : [Value.int .u8 0, .int .u8 (n / 16777216), .int .u8 (n / 65536 % 256), .int .u8 (n / 256 % 256), .int .u8 (n % 256)] = Dp.vals (0 :: Dp.four n) := by
    have h := Dp.vals_cellText n
    unfold Dp.cellText at h
    rw [h, show n / 16777216 % 256 = n / 16777216 by omega]
  have hp := Dp.byte_parts w _ (0 :: Dp.four n) hcs (by simp [Dp.four_length])
  refine (progSum1 _ _ _ hp).mono ?_
  rintro e w1 ⟨rfl, ew⟩
  have k1 : Dp.Keeps (fun _ => False) w w1 := by rw [ew]; exact ((Dp.Keeps.refl _ _).alloc _).alloc _
  have HK1 := Hid.mk_ k1
  rw [show [0 :: Dp.four n].flatten = 0 :: Dp.four n by simp]
  clear hp ew k1 hcs
  go_wp2_with fail
  have hcs : [Value.int .u8 0, .int .u8 (first : Int)] = Dp.vals [0, Dp.byteOf first] := by
    show _ = [Value.int .u8 0, .int .u8 ((Dp.byteOf (first : Int)).toNat : Int)]
    rw [Dp.byteOf_small _ (by omega)]
  have hp := Dp.byte_parts w1 _ [0, Dp.byteOf first] hcs (by simp)
  refine (progSum1 _ _ _ hp).mono ?_
  rintro e w2 ⟨rfl, ew⟩
  have k2 : Dp.Keeps (fun _ => False) w1 w2 := by rw [ew]; exact ((Dp.Keeps.refl _ _).alloc _).alloc _
  have HK2 := Hid.mk_ (HK1.out.trans k2)
  rw [show [[0, Dp.byteOf (first : Int)]].flatten = [0, Dp.byteOf (first : Int)] by simp]
  clear hp ew k2 hcs HK1
  have hwb := Dp.sum_bd (0 :: Dp.four n)
  have hub := Dp.sum_bd [0, Dp.byteOf (first : Int)]
  have HTS := Hid.mk_ (fun x y hx hy => Dp.twin_sum n first x y hf hx hy)
  obtain ⟨x0, y0, hx0, hy0, hl0, hne0⟩ := Dp.twin_there (Dp.sum (0 :: Dp.four n)) (Dp.sum [0, Dp.byteOf (first : Int)]) first n
  generalize hW : Dp.sum (0 :: Dp.four n) = want at *
  have HW := Hid.mk_ hW
  generalize Dp.sum [0, Dp.byteOf (first : Int)] = u at *
  clear hW
  have HTH : Hid (lastOfX want u x0 y0 first n) := ⟨hl0, hne0⟩
  clear hl0 hne0
  go_wp2
  go_loop [7] (fun i => ∃ x : Nat, x ≤ 256 ∧ i = .int .i64 x ∧ Hid (Dp.NoTwin want u first n x 0)) (fun i => 256 - (intOf i).toNat)
  case atStart => exact ⟨0, Nat.zero_le _, rfl, fun a b _ _ h => by omega⟩
  case round =>
    obtain ⟨x, hx, rfl, HN⟩ := hrel
    by_cases hlt : x < 256
    · have hlt' : (x : Int) < 256 := by omega
      go_wp2
      go_loop [9] (fun i => ∃ y : Nat, y ≤ 256 ∧ i = .int .i64 y ∧ Hid (Dp.NoTwin want u first n x y)) (fun i => 256 - (intOf i).toNat)
      case atStart => exact ⟨0, Nat.zero_le _, rfl, HN⟩
      case round =>
        obtain ⟨y, hy, rfl, HNy⟩ := hrel
        by_cases hly : y < 256
        · have hly' : (y : Int) < 256 := by omega
          obtain ⟨E, hE⟩ : ∃ E, (want - 1 - 257 * ((257 * ((257 * u + (x : Int) + 1) % 65521) + (y : Int) + 1) % 65521)).tmod 65521 = E := ⟨_, rfl⟩
          have HE' := Hid.mk_ hE
          have hEb : -65521 < E ∧ E < 65521 := by
            rw [← hE]
            exact ⟨Int.lt_tmod_of_pos _ (by decide), Int.tmod_lt_of_pos _ (by decide)⟩
          have hfx : (first : Int) * 16777216 ≤ 4278190080 := by omega
          by_cases hneg : E < 0
          · have hE' := HE'.out
            have HZ : Hid (Dp.lastOf want u x y = E + 65521) := by unfold Hid Dp.lastOf; rw [← Dp.tmod_fix, hE']; exact if_pos hneg
            by_cases hz : E + 65521 < 256
            · by_cases hne : (first : Int) * 16777216 + x * 65536 + y * 256 + (E + 65521) = n
              · have HNX : Hid (Dp.NoTwin want u first n x (y + 1)) := Dp.NoTwin.more HNy.out (fun h => h.2 (by rw [HZ.out]; exact hne))
                have hbe : ((first : Int) * 16777216 + x * 65536 + y * 256 + (E + 65521) != n) = false := by simp [hne]
                go_wp2
                go_round
                case rel => exact ⟨y + 1, by omega, by go_num, HNX⟩
                case measure => simp [intOf]; omega
              · have hbe : ((first : Int) * 16777216 + x * 65536 + y * 256 + (E + 65521) != n) = true := by simpa using hne
                have HT := Hid.mk_ (HTS.out x y hlt hly (by rw [HZ.out]; exact hz))
                rw [HZ.out] at HT
                have HNE := Hid.mk_ hne
                go_wp2
                go_ret
                exact ⟨⟨_, rfl, HT.out.1, HNE.out, HT.out.2.trans HW.out.symm⟩, HK2.out⟩
            · have HNX : Hid (Dp.NoTwin want u first n x (y + 1)) := Dp.NoTwin.more HNy.out (fun h => by rw [HZ.out] at h; exact hz h.1)
              go_wp2
              go_round
              case rel => exact ⟨y + 1, by omega, by go_num, HNX⟩
              case measure => simp [intOf]; omega
          · have hE' := HE'.out
            have HZ : Hid (Dp.lastOf want u x y = E) := by unfold Hid Dp.lastOf; rw [← Dp.tmod_fix, hE']; exact if_neg hneg
            by_cases hz : E < 256
            · by_cases hne : (first : Int) * 16777216 + x * 65536 + y * 256 + (E) = n
              · have HNX : Hid (Dp.NoTwin want u first n x (y + 1)) := Dp.NoTwin.more HNy.out (fun h => h.2 (by rw [HZ.out]; exact hne))
                have hbe : ((first : Int) * 16777216 + x * 65536 + y * 256 + (E) != n) = false := by simp [hne]
                go_wp2
                go_round
                case rel => exact ⟨y + 1, by omega, by go_num, HNX⟩
                case measure => simp [intOf]; omega
              · have hbe : ((first : Int) * 16777216 + x * 65536 + y * 256 + (E) != n) = true := by simpa using hne
                have HT := Hid.mk_ (HTS.out x y hlt hly (by rw [HZ.out]; exact hz))
                rw [HZ.out] at HT
                have HNE := Hid.mk_ hne
                go_wp2
                go_ret
                exact ⟨⟨_, rfl, HT.out.1, HNE.out, HT.out.2.trans HW.out.symm⟩, HK2.out⟩
            · have HNX : Hid (Dp.NoTwin want u first n x (y + 1)) := Dp.NoTwin.more HNy.out (fun h => by rw [HZ.out] at h; exact hz h.1)
              go_wp2
              go_round
              case rel => exact ⟨y + 1, by omega, by go_num, HNX⟩
              case measure => simp [intOf]; omega
        · obtain rfl : y = 256 := by omega
          have HNX : Hid (Dp.NoTwin want u first n (x + 1) 0) := fun a b ha hb h => HNy.out a b ha hb (by omega)
          have hly' : ¬ ((256 : Nat) : Int) < 256 := by omega
          rw [show ((256 : Nat) : Int) = 256 from rfl]
          go_wp2
          go_round
          case rel => exact ⟨x + 1, by omega, by go_num, HNX⟩
          case measure => simp [intOf]; omega
    · exfalso
      obtain ⟨h1, h2⟩ := HTH.out
      exact HN.out x0 y0 hx0 hy0 (by omega) ⟨h1, h2⟩
end Go.Proofs.YtdipojfngdceoaaGreatDoor
