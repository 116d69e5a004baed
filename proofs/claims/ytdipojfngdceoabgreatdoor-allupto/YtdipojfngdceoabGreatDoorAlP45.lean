/- Steps on the way: RefAnswer. -/
import Derived.Test.YtdipojfngdceoabGreatDoorAlP17
import Derived.Test.YtdipojfngdceoabGreatDoorAlP32
import Derived.Test.YtdipojfngdceoabGreatDoorAlP44
namespace Go.Proofs.YtdipojfngdceoabGreatDoor
open Go.RowKit
namespace Dp
def badAsk (D : Int) (asked : List Bool) : Prop := D < 1 ∨ 16 < D ∨ D ≤ asked.length
def midOf (D : Nat) (asked : List Bool) : Nat := (askedFrom asked D asked.length + ((2 ^ (D - asked.length) : Nat) : Int) / 2).toNat
theorem midOf_eq (D : Nat) (asked : List Bool) (hD : asked.length < D) (hn : D ≤ 16) : askedFrom asked D asked.length + ((2 ^ (D - asked.length) : Nat) : Int) / 2 = (midOf D asked : Int) ∧ midOf D asked ≤ 100000 := by
 have h1 := asked_bd asked D hD hn
 have h2 : 2 ^ (D - asked.length) ≤ 2 ^ 16 := Nat.pow_le_pow_right (by decide) (by omega)
 unfold midOf
 generalize 2 ^ (D - asked.length) = q at *
 omega
def docAnswer (m : Mach) (D : Int) (asked : List Bool) : Int × Int :=
 if D < 1 ∨ 16 < D ∨ D ≤ asked.length then (0, 1) else
  if (Mach.run (midOf D.toNat asked) m).2.2 ≠ 0 then (0, (Mach.run (midOf D.toNat asked) m).2.2)
  else (stamp (Mach.run (midOf D.toNat asked) m).1.s (root (Mach.run (midOf D.toNat asked) m).1.cells), 0)
theorem docAnswer_bad {m : Mach} {D : Int} {asked : List Bool} (h : badAsk D asked) : docAnswer m D asked = (0, 1) := if_pos h
theorem docAnswer_good {m : Mach} {N : Nat} {asked : List Bool} (h : ¬ badAsk N asked) : docAnswer m N asked = if (Mach.run (midOf N asked) m).2.2 ≠ 0 then (0, (Mach.run (midOf N asked) m).2.2) else (stamp (Mach.run (midOf N asked) m).1.s (root (Mach.run (midOf N asked) m).1.cells), 0) := if_neg h
end Dp
set_option maxRecDepth 100000 in
set_option maxHeartbeats 1000000 in
theorem progMiddleErr (w : World) (D : Int) (vm : Value) (asked : List Bool) (hm : Dp.Bools w vm asked) (hb : Dp.badAsk D asked) :
  Calls Tryz.prog 112 #[.int .i64 D, vm] w fun e w' => e = .returned (.tuple #[.int .i64 0, .int .i64 1]) ∧ Dp.Keeps (fun _ => False) w w' := by
 obtain ⟨mb, mo, mad, mcap, rfl, hml, hmne, hmc⟩ := hm
 clear hmc hmne
 unfold Dp.badAsk at hb
 by_cases h1 : D < 1
 ·go_enter Tryz.func112, Tryz.ntmps112
  go_wp2
  go_ret2
  exact ⟨rfl, Dp.Keeps.refl _ _⟩
 ·by_cases h2 : 16 < D
  ·go_enter Tryz.func112, Tryz.ntmps112
   go_wp2
   go_ret2
   exact ⟨rfl, Dp.Keeps.refl _ _⟩
  ·have h3 : D ≤ asked.length := by omega
   clear hb
   go_enter Tryz.func112, Tryz.ntmps112
   go_wp2
   go_ret2
   exact ⟨rfl, Dp.Keeps.refl _ _⟩
set_option maxRecDepth 100000 in
set_option maxHeartbeats 1000000 in
theorem progMAnswerErr (w : World) (b : Nat) (D : Int) (vm : Value) (asked : List Bool) (hm : Dp.Bools w vm asked) (hb : Dp.badAsk D asked) :
  Calls Tryz.prog 88 #[.pointer (some ⟨b, 0, none⟩), .int .i64 D, vm] w fun e w' => e = .returned (.tuple #[.int .i64 0, .int .i64 1]) ∧ Dp.Keeps (fun _ => False) w w' := by
 have HM := Hid.mk_ (progMiddleErr w D vm asked hm hb)
 obtain ⟨mb, mo, mad, mcap, rfl, hml, hmne, hmc⟩ := hm
 clear hmc hmne hb
 go_enter Tryz.func88, Tryz.ntmps88
 go_wp2_with fail
 refine HM.out.mono ?_
 rintro e w1 ⟨rfl, k1⟩
 have HK := Hid.mk_ k1
 clear k1
 go_wp2
 go_ret2
 exact ⟨rfl, HK.out⟩
set_option maxRecDepth 100000 in
set_option maxHeartbeats 1000000 in
theorem progMAnswerRun (w : World) (b : Nat) (G : Nat → Prop) (vs : Value) (m : Dp.Mach) (h : Dp.ProgM w b G vs m) (D : Nat) (vm : Value) (asked : List Bool) (hm : Dp.Bools w vm asked) (hD : asked.length < D) (hn : D ≤ 16) (n : Nat) (hn2 : Dp.askedFrom asked D asked.length + ((2 ^ (D - asked.length) : Nat) : Int) / 2 = (n : Int)) (hn3 : n ≤ 100000) (E : Int) (hE : (Dp.Mach.run n m).2.2 = E) (hE0 : E ≠ 0) :
  Calls Tryz.prog 88 #[.pointer (some ⟨b, 0, none⟩), .int .i64 D, vm] w fun e w' => e = .returned (.tuple #[.int .i64 0, .int .i64 E]) ∧ Dp.Keeps (fun _ => False) w w' := by
 have HM := Hid.mk_ h
 have HGO := Hid.mk_ hE
 clear h hE
 go_enter Tryz.func88, Tryz.ntmps88
 go_wp2_with fail
 refine (progMiddle w D vm asked hm hD hn).mono ?_
 rintro e w1 ⟨rfl, k1⟩
 rw [hn2]
 have HM1 := Hid.mk_ (HM.out.keep k1 (fun e => e) (fun _ _ e => e))
 have HR1 := Hid.mk_ (Dp.row_nil HM1.out.row)
 have HLN : Hid ((Dp.stateCells m.s ++ Dp.memCells vs m.cells).length = 269) := by
  unfold Hid
  rw [List.length_append, Dp.stateCells_length _ HM1.out.ok.s.len, Dp.memCells_length, HM1.out.ok.len]
 have HK1 := Hid.mk_ k1
 have HONE : Hid (∀ v ∈ Dp.stateCells m.s ++ Dp.memCells vs m.cells, v.oneCell' = true) := by
  intro v hv
  rw [List.mem_append] at hv
  rcases hv with hv | hv
  ·exact Dp.stateCells_one _ v hv
  ·exact Dp.memCells_one _ _ (by obtain ⟨_, _, _, _, e, _⟩ := HM1.out.src; rw [e]; rfl) v hv
 clear HM k1 hm
 generalize hC : Dp.stateCells m.s ++ Dp.memCells vs m.cells = C at *
 have HC := Hid.mk_ hC
 clear hC
 go_wp2_with (first | (refine Dp.wpList_load_in rfl 86 _ rfl b 0 rfl 86 [] C [] HR1.out rfl _ Tryz.underlying86 rfl (by rw [sizeMachT, HLN.out]) ?_; intro _) | (refine Dp.wpList_alloc_row rfl 86 rfl _ zeroMach ?_))
 intro w2 r2 z2 k2
 have HR2 := Hid.mk_ (Dp.row_nil r2)
 have HZL : Hid ((Dp.stateCells Dp.zeroCs ++ Dp.memCells (.slice none 0 0) (List.replicate 256 0)).length = 269) := by unfold Hid; kernel_rfl
 clear r2
 go_wp2_with (refine Dp.wpList_store_in rfl 86 _ _ rfl w1.heap.size 0 rfl C rfl 86 [] (Dp.stateCells Dp.zeroCs ++ Dp.memCells (.slice none 0 0) (List.replicate 256 0)) [] HR2.out rfl (by rw [HLN.out, HZL.out]) (by rw [sizeMachT, HLN.out]) HONE.out ?_)
 intro w3 r3 z3 k3
 have r3' : Dp.Row w3 w1.heap.size 86 C := by simpa using r3
 have hs1 := HK1.out.size
 have k13 : Dp.Keeps (fun _ => False) w1 w3 := k2.next k3 (fun k hk e => by omega)
 have HM3 : Hid (Dp.ProgM w3 w1.heap.size G vs m) := ⟨HM1.out.ok, by rw [HC.out]; exact r3', HM1.out.src.keep k13 (fun q hq => ⟨(HM1.out.own q hq).1, fun e => e⟩), fun q hq => ⟨by have := (HM1.out.own q hq).1; have := k13.size; omega, by have := (HM1.out.own q hq).1; omega⟩⟩
 have HK3 := Hid.mk_ (HK1.out.trans k13)
 clear r3 r3' k2 k3 k13 HR2 HM1 HK1 HR1 HZL HC HLN z2 z3
 go_wp2_with fail
 refine (progRunM w3 w1.heap.size G vs m HM3.out n hn3).mono ?_
 rintro e w4 ⟨rfl, k4, _⟩
 rw [HGO.out]
 have HK4 : Hid (Dp.Keeps (fun _ => False) w w4) := HK3.out.next k4 (fun q hq e => by omega)
 have hne : (E != 0) = true := by simpa using hE0
 clear k4 HM3 HK3
 generalize (Dp.Mach.run n m).2.1 = dn at *
 go_wp2
 go_ret2
 exact ⟨rfl, HK4.out⟩
set_option maxRecDepth 100000 in
theorem progAnswerAll (w : World) (b : Nat) (G : Nat → Prop) (vs : Value) (m : Dp.Mach) (h : Dp.ProgM w b G vs m) (D : Int) (vm : Value) (asked : List Bool) (hm : Dp.Bools w vm asked) :
  Calls Tryz.prog 88 #[.pointer (some ⟨b, 0, none⟩), .int .i64 D, vm] w fun e w' => e = .returned (.tuple #[.int .i64 (Dp.docAnswer m D asked).1, .int .i64 (Dp.docAnswer m D asked).2]) ∧ Dp.Keeps (fun _ => False) w w' := by
 by_cases hb : Dp.badAsk D asked
 ·have e : Dp.docAnswer m D asked = (0, 1) := Dp.docAnswer_bad hb
  rw [e]
  exact progMAnswerErr w b D vm asked hm hb
 ·have hb' := hb
  unfold Dp.badAsk at hb'
  obtain ⟨N, rfl⟩ : ∃ N : Nat, D = N := ⟨D.toNat, by omega⟩
  have a1 : asked.length < N := by omega
  have a2 : N ≤ 16 := by omega
  obtain ⟨m1, m2⟩ := Dp.midOf_eq N asked a1 a2
  have hg := Dp.docAnswer_good (m := m) hb
  generalize Dp.midOf N asked = M at *
  by_cases hr : (Dp.Mach.run M m).2.2 = 0
  ·rw [if_neg (by rw [hr]; decide)] at hg
   have hc := progMAnswer w b G vs m h N vm asked hm a1 a2 M m1 m2 hr
   generalize Dp.stamp (Dp.Mach.run M m).1.s (Dp.root (Dp.Mach.run M m).1.cells) = SX at *
   rw [hg]
   exact hc
  ·rw [if_pos hr] at hg
   have hc := progMAnswerRun w b G vs m h N vm asked hm a1 a2 M m1 m2 _ rfl hr
   generalize Dp.Mach.run M m = RR at *
   rw [hg]
   exact hc
set_option maxRecDepth 100000 in
set_option maxHeartbeats 2000000 in
theorem refAnswer (w : World) (p g : Nat) (vr : Value) (m : Dp.Mach) (h : Dp.RefM w p g vr m) (D : Int) (vm : Value) (asked : List Bool) (hm : Dp.Bools w vm asked) :
  Calls Tryz.prog 89 #[.pointer (some ⟨p, 0, none⟩), .int .i64 D, vm] w fun e w' => e = .returned (.tuple #[.int .i64 (Dp.docAnswer m D asked).1, .int .i64 (Dp.docAnswer m D asked).2]) ∧ Dp.Keeps (fun _ => False) w w' := by
 obtain ⟨mb, mo, mad, mcap, rfl, hml, hmne, hmc⟩ := hm
 have HMC := Hid.mk_ hmc
 have HMN := Hid.mk_ hmne
 clear hmc hmne
 by_cases hb : Dp.badAsk D asked
 ·have HE : Hid (Dp.docAnswer m D asked = (0, 1)) := Dp.docAnswer_bad hb
  unfold Dp.badAsk at hb
  by_cases h1 : D < 1
  ·go_enter Tryz.func89, Tryz.ntmps89
   go_wp2
   go_ret2
   rw [HE.out]
   exact ⟨rfl, Dp.Keeps.refl _ _⟩
  ·by_cases h2 : 16 < D
   ·go_enter Tryz.func89, Tryz.ntmps89
    go_wp2
    go_ret2
    rw [HE.out]
    exact ⟨rfl, Dp.Keeps.refl _ _⟩
   ·have h3 : D ≤ asked.length := by omega
    clear hb
    go_enter Tryz.func89, Tryz.ntmps89
    go_wp2
    go_ret2
    rw [HE.out]
    exact ⟨rfl, Dp.Keeps.refl _ _⟩
 ·have HB := Hid.mk_ hb
  unfold Dp.badAsk at hb
  obtain ⟨N, rfl⟩ : ∃ N : Nat, D = N := ⟨D.toNat, by omega⟩
  have hN1 : (1 : Int) ≤ N := by omega
  have hN2 : (N : Int) ≤ 16 := by omega
  have hN3 : (asked.length : Int) < N := by omega
  have HMD := Hid.mk_ (Dp.midOf_eq N asked (by omega) (by omega))
  have H := Hid.mk_ h
  clear h hb
  go_enter Tryz.func89, Tryz.ntmps89
  go_wp2
  go_loop [9, 10] (fun s i => ∃ k : Nat, k ≤ N ∧ i = .int .i64 k ∧ s = .int .i64 ((2 ^ k : Nat) : Int)) (fun _ i => N - (intOf i).toNat)
  case atStart => exact ⟨0, Nat.zero_le _, rfl, rfl⟩
  case round =>
   obtain ⟨k, hk, rfl, rfl⟩ := hrel
   by_cases hlt : k < N
   ·have hp : 2 ^ k ≤ 2 ^ 16 := Nat.pow_le_pow_right (by decide) (by omega)
    have HU : Hid (((2 ^ (k + 1) : Nat) : Int) = 2 * ((2 ^ k : Nat) : Int)) := by unfold Hid; rw [Nat.pow_succ]; omega
    generalize 2 ^ k = S at *
    go_wp2
    go_round
    case rel => exact ⟨k + 1, by omega, by go_num, by rw [HU.out]⟩
    case measure => simp [intOf]; omega
   ·obtain rfl : k = N := by omega
    obtain ⟨pw, hpw⟩ : ∃ x : Int, x = ((2 ^ k : Nat) : Int) := ⟨_, rfl⟩
    rw [← hpw]
    have HPW := Hid.mk_ hpw
    clear hpw
    go_wp2
    go_loop [8, 9, 11] (fun f s i => ∃ (q : Nat) (fr sz : Int), q ≤ asked.length ∧ i = .int .i64 q ∧ f = .int .i64 fr ∧ s = .int .i64 sz ∧ Hid (fr = Dp.askedFrom asked k q ∧ sz = ((2 ^ (k - q) : Nat) : Int))) (fun _ _ i => asked.length - (intOf i).toNat)
    case atStart => exact ⟨0, 0, pw, Nat.zero_le _, rfl, rfl, rfl, by simp [Dp.askedFrom, Dp.askedNum, Dp.numFrom], by rw [HPW.out, Nat.sub_zero]⟩
    case round =>
     obtain ⟨q, fr, sz, hq, rfl, rfl, rfl, HF⟩ := hrel
     by_cases hlt2 : q < asked.length
     ·have cm := HMC.out q hlt2
      obtain rfl : mad = some ⟨mb, mo, none⟩ := HMN.out (by intro h; rw [h] at hlt2; simp at hlt2)
      have HNS := Hid.mk_ (Dp.askedStep asked k q hlt2 (by omega) (by omega))
      generalize asked[q] = lf at *
      have HN := Hid.mk_ (HNS.out lf rfl fr sz HF.out)
      clear HNS
      have b1 := HN.out.1
      have b2 := HN.out.2.1
      have HG := Hid.mk_ HN.out.2.2
      clear HN
      cases lf with
      | true =>
       go_wp2
       go_round
       case rel => exact ⟨q + 1, _, _, by omega, by go_num, rfl, rfl, by unfold Hid; simpa using HG.out⟩
       case measure => simp [intOf]; omega
      | false =>
       go_wp2
       go_round
       case rel => exact ⟨q + 1, _, _, by omega, by go_num, rfl, rfl, by unfold Hid; simpa using HG.out⟩
       case measure => simp [intOf]; omega
     ·obtain rfl : q = asked.length := by omega
      have hab : 0 ≤ fr ∧ fr ≤ 65536 := by rw [HF.out.1]; exact Dp.asked_bd asked k (by omega) (by omega)
      have hpb : 0 ≤ sz ∧ sz ≤ 65536 := by
       rw [HF.out.2]
       have : 2 ^ (k - asked.length) ≤ 2 ^ 16 := Nat.pow_le_pow_right (by decide) (by omega)
       generalize 2 ^ (k - asked.length) = qq at *
       omega
      have hmid : fr + sz / 2 = (Dp.midOf k asked : Int) := by rw [HF.out.1, HF.out.2]; exact HMD.out.1
      have hml2 := HMD.out.2
      have HDA : Hid (Dp.docAnswer m k asked = if (Dp.Mach.run (Dp.midOf k asked) m).2.2 ≠ 0 then (0, (Dp.Mach.run (Dp.midOf k asked) m).2.2) else (Dp.stamp (Dp.Mach.run (Dp.midOf k asked) m).1.s (Dp.root (Dp.Mach.run (Dp.midOf k asked) m).1.cells), 0)) := Dp.docAnswer_good HB.out
      generalize Dp.midOf k asked = M at *
      clear HF HMD HMC HMN HB HPW
      go_wp2_with fail
      refine (refTwin w p g vr m H.out).mono ?_
      rintro e w1 ⟨p', g', rfl, hp', hg', k1, rm'⟩
      have HRM := Hid.mk_ rm'
      clear rm'
      go_wp2_with fail
      refine (refRun w1 p' g' vr m HRM.out M (by omega)).mono ?_
      rintro e w2 ⟨rfl, k2, rm2⟩
      have HK2 : Hid (Dp.Keeps (fun _ => False) w w2) := k1.next k2 (fun q hq e => by rcases e with e | e <;> omega)
      have HR2 := Hid.mk_ rm2
      clear k1 k2 rm2 HRM
      generalize (Dp.Mach.run M m).2.1 = dn at *
      by_cases hE : (Dp.Mach.run M m).2.2 = 0
      ·have HD : Hid (Dp.docAnswer m k asked = (Dp.stamp (Dp.Mach.run M m).1.s (Dp.root (Dp.Mach.run M m).1.cells), 0)) := by unfold Hid; rw [HDA.out, if_neg (by rw [hE]; decide)]
       rw [hE]
       clear HDA hE
       generalize hmr : (Dp.Mach.run M m).1 = mr at *
       clear hmr
       go_wp2_with fail
       refine (refStamp w2 p' g' vr mr HR2.out).mono ?_
       rintro e w3 ⟨rfl, k3, _⟩
       have HK3 : Hid (Dp.Keeps (fun _ => False) w w3) := HK2.out.next k3 (fun q hq e => by omega)
       clear k3
       generalize Dp.stamp mr.s (Dp.root mr.cells) = SX at *
       go_wp2
       go_ret2
       rw [HD.out]
       exact ⟨rfl, HK3.out⟩
      ·have HD : Hid (Dp.docAnswer m k asked = (0, (Dp.Mach.run M m).2.2)) := by unfold Hid; rw [HDA.out, if_pos hE]
       have hne : ((Dp.Mach.run M m).2.2 != 0) = true := by simpa using hE
       clear HDA hE
       generalize (Dp.Mach.run M m).2.2 = E at *
       go_wp2
       go_ret2
       rw [HD.out]
       exact ⟨rfl, HK2.out⟩
end Go.Proofs.YtdipojfngdceoabGreatDoor
