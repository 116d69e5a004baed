/- Steps on the way: LawFirst, LawShowsU, LawAnswers. -/
import Derived.Test.YtdipojfngdceoabGreatDoorAlP09
import Derived.Test.YtdipojfngdceoabGreatDoorAlP19
import Derived.Test.YtdipojfngdceoabGreatDoorAlP35
import Derived.Test.YtdipojfngdceoabGreatDoorAlP38
import Derived.Test.YtdipojfngdceoabGreatDoorAlP42
import Derived.Test.YtdipojfngdceoabGreatDoorAlP43
import Derived.Test.YtdipojfngdceoabGreatDoorAlP45
namespace Go.Proofs.YtdipojfngdceoabGreatDoor
open Go.RowKit
namespace Dp
def firstWordsL : List Int := [746586117, 8388608]
theorem first_ok : newOk firstWordsL [] = true := by decide +kernel
theorem first_one : (newMach firstWordsL []).step.2 = 0 := by decide +kernel
theorem first_two : (newMach firstWordsL []).step.1.step.2 = 0 := by decide +kernel
theorem first_end : (newMach firstWordsL []).step.1.step.1.s = ⟨1, 2, 5, true, [0, 5, 0, 0, 0, 0, 0, 0]⟩ := by kernel_rfl
end Dp
set_option maxRecDepth 100000 in
set_option maxHeartbeats 1000000 in
theorem lawFirst (w : World) : Calls Tryz.prog 15 #[] w fun e w' => e = .returned (.bool true) ∧ Dp.Keeps (fun _ => False) w w' := by
 go_enter Tryz.func15, Tryz.ntmps15
 go_wp2_with (refine Dp.wpList_box_row rfl 56 _ rfl [Dp.nilV, Dp.nilV, Dp.nilV, Dp.nilV, Dp.nilV, Dp.nilV] rfl ?_)
 intro w1 r1 z1 k1
 have k2 := (Dp.Keeps.refl (fun _ => False) w1).alloc (.cells #[.int .i64 746586117, .int .i64 8388608] 3)
 have hI : Dp.Ints (w1.alloc (.cells #[.int .i64 746586117, .int .i64 8388608] 3)) (.slice (some ⟨w1.heap.size, 0, none⟩) 2 2) Dp.firstWordsL := by
  have hr := Dp.Row.allocNew w1 3 [.int .i64 746586117, .int .i64 8388608]
  refine ⟨w1.heap.size, 0, some ⟨w1.heap.size, 0, none⟩, 2, rfl, by simp [Dp.firstWordsL], fun _ => ⟨rfl, hr.lt⟩, fun i hi => ?_⟩
  have hi' : i < 2 := hi
  rcases (by omega : i = 0 ∨ i = 1) with rfl | rfl
  ·exact hr.cell 0
  ·exact hr.cell 1
 rw [z1] at hI
 have hT : Dp.Texts (w1.alloc (.cells #[.int .i64 746586117, .int .i64 8388608] 3)) (.slice none 0 0) [] := ⟨0, 0, none, 0, rfl, by simp, fun e => absurd rfl e, fun i hi => absurd hi (by simp)⟩
 have hR := r1.keep k2 (fun e => e)
 have HIT := Hid.mk_ (And.intro hI (And.intro hT hR))
 clear hI hT hR r1
 go_wp2_with fail
 refine (lawOpens _ w.heap.size _ _ Dp.firstWordsL [] HIT.out.1 HIT.out.2.1 (fun x hx => by simp [Dp.firstWordsL] at hx; rcases hx with rfl | rfl <;> decide) HIT.out.2.2 (fun h => absurd rfl h)).mono ?_
 rintro e w3 ⟨rfl, k3, hcase⟩
 obtain ⟨s, b, p, g, G, vs, vr, sg, scap, v2, v3, v5, hsd, hkp, hb, _, _⟩ : ∃ s b p g G vs vr sg scap v2 v3 v5, Dp.Side w3 s b p g G vs vr (Dp.newMach Dp.firstWordsL []) ∧ (∀ w'', Dp.Keeps (Dp.Foot b p g) w3 w'' → Dp.KeptOk w'' w.heap.size (.slice (some ⟨sg, 0, none⟩) 1 scap) Dp.nilV v2 v3 Dp.nilV v5 ∧ w''.cell? ⟨sg, 0, none⟩ = some (.pointer (some ⟨s, 0, none⟩))) ∧ (w1.alloc (.cells #[.int .i64 746586117, .int .i64 8388608] 3)).heap.size ≤ b ∧ (w1.alloc (.cells #[.int .i64 746586117, .int .i64 8388608] 3)).heap.size ≤ p ∧ (w1.alloc (.cells #[.int .i64 746586117, .int .i64 8388608] 3)).heap.size ≤ g := by
  rcases hcase with ⟨h, _⟩ | ⟨_, h⟩
  ·rw [Dp.first_ok] at h; exact absurd h (by decide)
  ·exact h
 have hb' : w.heap.size ≤ b := by simp at hb; omega
 have k03 : Dp.Keeps (fun _ => False) w w3 := (k1.trans k2).next k3 (fun q hq e => by omega)
 obtain ⟨hko, hsc⟩ := hkp w3 (Dp.Keeps.refl _ _)
 have c0 := hko.row.cell 0
 simp only [List.getElem?_cons_zero] at c0
 obtain ⟨d0, _⟩ := hsd.cells
 have HPM := Hid.mk_ hsd.prog
 clear hkp hko hsd hcase hb HIT k1 k2 k3
 go_wp2_with fail
 refine (progMStep w3 b G vs _ HPM.out).mono ?_
 rintro e w4 ⟨rfl, k4, p4⟩
 rw [Dp.first_one]
 have HP4 := Hid.mk_ p4
 clear c0 hsc d0 p4
 go_wp2_with fail
 refine (progMStep w4 b G vs _ HP4.out).mono ?_
 rintro e w5 ⟨rfl, k5, p5⟩
 rw [Dp.first_two]
 have HP5 := Hid.mk_ p5
 clear p5
 go_wp2_with fail
 refine (progMLook w5 b G vs _ HP5.out).mono ?_
 rintro e w6 ⟨rfl, k6⟩
 rw [Dp.first_end]
 have HK6 : Hid (Dp.Keeps (fun _ => False) w w6) := ((k03.next k4 (fun q hq e => by omega)).next k5 (fun q hq e => by omega)).trans k6
 obtain ⟨R, hR⟩ : ∃ R : Int, R = Dp.root (Dp.newMach Dp.firstWordsL []).step.1.step.1.cells := ⟨_, rfl⟩
 rw [← hR]
 clear hR k03 k4 k5 k6
 go_wp2_with (refine Dp.wpList_alloc_row rfl 69 rfl _ zeroState ?_)
 intro w7 r7 z7 k7
 have HR7 := Hid.mk_ (Dp.row_nil r7)
 go_wp2_with (refine Dp.wpList_store_in rfl 69 _ _ rfl w6.heap.size 0 rfl (Dp.stCells ⟨1, 2, 5, true, [0, 5, 0, 0, 0, 0, 0, 0]⟩ R) rfl 69 [] _ [] HR7.out rfl rfl (by rw [sizeState]; rfl) (Dp.stCells_one _ _) ?_)
 intro w8 r8 z8 k8
 have r8' : Dp.Row w8 w6.heap.size 69 (Dp.stCells ⟨1, 2, 5, true, [0, 5, 0, 0, 0, 0, 0, 0]⟩ R) := by simpa using r8
 have a1 : w8.cell? ⟨w6.heap.size, 1, none⟩ = some (.int .i64 2) := r8'.cell 1
 have a2 : w8.cell? ⟨w6.heap.size, 2, none⟩ = some (.int .i64 5) := r8'.cell 2
 have a3 : w8.cell? ⟨w6.heap.size, 3, none⟩ = some (.bool true) := r8'.cell 3
 have a5 : w8.cell? ⟨w6.heap.size, 5, none⟩ = some (.int .i64 5) := r8'.cell 5
 have HK8 : Hid (Dp.Keeps (fun _ => False) w w8) := HK6.out.trans (k7.next k8 (fun k hk e => by omega))
 clear r7 r8 r8' HR7 k7 k8 z7 z8
 go_wp2
 go_ret
 exact ⟨rfl, HK8.out⟩
theorem sizeMadeA : (Tryz.prog.info? 47).map (·.size) = some 2 := by kernel_rfl
set_option maxRecDepth 100000 in
set_option maxHeartbeats 1000000 in
theorem lawPlay0A (w : World) (W : Nat) (ad : Option Addr) (cap : Nat) (v1 v2 v3 v4 v5 : Value) (hL : ∀ w', Dp.Keeps (fun _ => False) w w' → Dp.KeptOk w' W (.slice ad 0 cap) v1 v2 v3 v4 v5) (oad : Option Addr) (ol ocap : Nat) (most : Int) :
  Calls Tryz.prog 17 #[.pointer (some ⟨W, 0, none⟩), .slice oad ol ocap, .int .i64 most] w fun e w' => e = .returned (.bool true) ∧ Dp.Keeps (fun _ => False) w w' := by
 have HK := Hid.mk_ hL
 have cw0 := (hL w (Dp.Keeps.refl _ _)).row.cell 0
 simp only [List.getElem?_cons_zero] at cw0
 clear hL
 go_enter Tryz.func17, Tryz.ntmps17
 go_wp2
 clear cw0
 go_loopw [8, 9, 10, 11, 12] (fun i _ _ _ _ wr => i = .int .i64 0 ∧ Dp.Keeps (fun _ => False) w wr) (fun _ _ _ _ _ _ => 0)
 case atStart => exact ⟨rfl, Dp.Keeps.refl _ _⟩
 case round =>
  obtain ⟨rfl, kk⟩ := hrel
  by_cases hlt : 0 < ol
  ·go_wp2
   go_loopw [13, 14] (fun i _ wr => i = .int .i64 0 ∧ Dp.Keeps (fun _ => False) w wr) (fun _ _ _ => 0)
   case atStart => exact ⟨rfl, kk⟩
   case round =>
    obtain ⟨rfl, kk⟩ := hrel
    have HK3 := Hid.mk_ (HK.out wr kk)
    go_wp2_with fail
    refine (lawKept wr W _ _ v2 v3 _ v5 HK3.out.row HK3.out.l1 HK3.out.l2 HK3.out.l3 HK3.out.l4 HK3.out.l5).mono ?_
    rintro e w4 ⟨rfl, nn, rfl⟩
    have HK4 := Hid.mk_ (kk.drewN nn)
    go_wp2
    go_ret
    exact ⟨rfl, HK4.out⟩
  ·go_wp2
   go_loopw [13, 14] (fun i _ wr => i = .int .i64 0 ∧ Dp.Keeps (fun _ => False) w wr) (fun _ _ _ => 0)
   case atStart => exact ⟨rfl, kk⟩
   case round =>
    obtain ⟨rfl, kk⟩ := hrel
    have HK3 := Hid.mk_ (HK.out wr kk)
    go_wp2_with fail
    refine (lawKept wr W _ _ v2 v3 _ v5 HK3.out.row HK3.out.l1 HK3.out.l2 HK3.out.l3 HK3.out.l4 HK3.out.l5).mono ?_
    rintro e w4 ⟨rfl, nn, rfl⟩
    have HK4 := Hid.mk_ (kk.drewN nn)
    go_wp2
    go_ret
    exact ⟨rfl, HK4.out⟩
theorem lawStepU (w : World) (W : Nat) (d : Dp.Sd) (m : Dp.Mach) (L : Dp.LSt) (c : Nat) (eb : Addr) (o : Dp.SOp) (hS : o.St.size ≤ 1048576) (hL : L.at w W) (hd : d.at w m) (hap : ∀ k, L.F W k → ¬ d.In k) (hsz : L.sz c) (hc : c ≤ 2000000) (he : Dp.ErrAt w eb) (hp0 : d.p ≠ 0) (hk : o.kind ≤ 8) :
  Calls Tryz.prog 35 #[.pointer (some ⟨W, 0, none⟩), .pointer (some ⟨d.s, 0, none⟩), .agg (Dp.opCells o.kind o.n o.vA o.St o.which).toArray] w fun e w' => e = .returned (.bool true) ∧ Dp.Left w w' W d L c := by
 by_cases h5 : o.kind ≤ 5
 ·exact lawStepLow w W d m L c _ _ _ _ _ hL hd hap hsz h5
 rcases (by omega : o.kind = 6 ∨ o.kind = 7 ∨ o.kind = 8) with e | e | e
 ·exact lawStep6 w W d m L c _ _ _ _ _ hL hd hap hsz hc e
 ·exact lawStep7 w W d m L c eb _ _ _ _ _ hL hd hap hsz hc he hS e
 ·exact lawStep8 w W d m L c eb _ _ _ _ _ hL hd hap hsz hc he hp0 hS e
theorem lawPlayed (w : World) (W B : Nat) (ds : List Dp.Sd) (ms : Nat → Dp.Mach) (L : Dp.LSt) (eb : Addr) (h : Dp.OpenSt B w W ds ms L) (hd : ds.length ≤ 4) (hf : L.few 2200000 16 16) (hB : 0 < B) (ops : List Dp.SOp) (hol : ops.length ≤ 1048576) (hE : ∀ w', Dp.Keeps (fun k => B ≤ k) w w' → Dp.ErrAt w' eb) (most : Int) (hm : 6 ≤ most ∧ most ≤ 100) (P : World → Dp.SOp → Prop)
  (hstep : ∀ (w' : World) (d : Dp.Sd) (m : Dp.Mach) (L : Dp.LSt) (c : Nat) (o : Dp.SOp), P w' o → L.at w' W → d.at w' m → (∀ k, L.F W k → ¬ d.In k) → L.sz c → c ≤ 2000000 → Dp.ErrAt w' eb → d.p ≠ 0 → o.kind ≤ most → Calls Tryz.prog 35 #[.pointer (some ⟨W, 0, none⟩), .pointer (some ⟨d.s, 0, none⟩), .agg (Dp.opCells o.kind o.n o.vA o.St o.which).toArray] w' fun e w'' => e = .returned (.bool true) ∧ Dp.Left w' w'' W d L c)
  (hP : ∀ w', Dp.Keeps (fun k => B ≤ k) w w' → ∀ o ∈ ops, P w' o) (ob oo ocap : Nat) (oad : Option Addr) (hoad : ops ≠ [] → oad = some ⟨ob, oo, none⟩)
  (hA : ∀ x ∈ ops, x.vA.oneCell' = true) (hN : ∀ x ∈ ops, -9223372036854775808 ≤ x.kind ∧ x.kind ≤ 9223372036854775807)
  (hO : ∀ w', Dp.Keeps (fun k => B ≤ k) w w' → ∀ i (hi : i < ops.length), ∀ j, j < 5 → w'.cell? ⟨ob, oo + i * 5 + j, none⟩ = ops[i].cells[j]?) :
  Calls Tryz.prog 17 #[.pointer (some ⟨W, 0, none⟩), .slice oad ops.length ocap, .int .i64 most] w fun e w' => e = .returned (.bool true) ∧ Dp.Keeps (fun k => B ≤ k) w w' := by
 obtain ⟨f1, f4, f2, f3, f5⟩ := hf
 have hsz : L.sz 0 := ⟨by rw [f1]; simp, by omega, f3, by rw [f4]; simp, f5⟩
 by_cases hds : ds = []
 ·subst hds
  obtain ⟨ad, cap, ev⟩ := h.own0.isSlice
  refine (lawPlay0A w W ad cap L.v1 L.v2 L.v3 L.v4 L.v5 (fun w' k => ?_) oad ops.length ocap most).mono ?_
  ·have hk := Dp.LSt.kept (Dp.Lists.still h.lists k) hsz (by omega)
   rw [ev] at hk
   exact hk
  ·rintro e w' ⟨he, k⟩
   exact ⟨he, k.mono (fun _ _ e => e.elim)⟩
 ·obtain ⟨sg, scap, hp⟩ := h.play hds
  obtain ⟨nn, hnn⟩ : ∃ nn, ds.length = nn + 1 := ⟨ds.length - 1, by have := List.length_pos_iff.2 hds; omega⟩
  exact lawPlayA w W B 0 sg scap ds ms L eb hp hsz nn hnn (by omega) hB ops (by omega) hE most hm P hstep hP ob oo ocap oad hoad hA hN hO
theorem infoBool1 : (Tryz.prog.info? 4).map (fun i => (i.zero, i.size, i.bytes)) = some (some (.bool false), 1, 1) := by kernel_rfl
theorem infoBools1 : (Tryz.prog.info? 96).map (fun i => (i.zero, i.size, i.bytes)) = some (some (.slice none 0 0), 1, 24) := by kernel_rfl
theorem sizeOp9 : (Tryz.prog.info? 98).map (·.size) = some 5 := by kernel_rfl
theorem sizeBool1 : (Tryz.prog.info? 4).map (·.size) = some 1 := by kernel_rfl
namespace Dp
def boolCells (l : List Bool) : List Value := l.map .bool
theorem boolCells_length (l : List Bool) : (boolCells l).length = l.length := by simp [boolCells]
theorem boolCells_one (l : List Bool) : ∀ v ∈ boolCells l, v.oneCell' = true := by
 intro v hv
 simp only [boolCells, List.mem_map] at hv
 obtain ⟨x, _, rfl⟩ := hv
 rfl
def alt : Nat → Value := fun k => .bool ((k : Int) % 2 == 0)
end Dp
set_option maxRecDepth 100000 in
set_option maxHeartbeats 2000000 in
theorem lawAnswers (w : World) (W : Nat) (d : Dp.Sd) (m : Dp.Mach) (L : Dp.LSt) (c : Nat) (kind D : Int) (vA : Value) (St : ByteArray) (which : Bool) (asked : List Bool) (hL : L.at w W) (hd : d.at w m) (hap : ∀ k, L.F W k → ¬ d.In k) (hsz : L.sz c) (hc : c ≤ 2000000) (hA : Dp.AskedAt w vA asked) :
  Calls Tryz.prog 59 #[.pointer (some ⟨W, 0, none⟩), .pointer (some ⟨d.s, 0, none⟩), .agg (Dp.opCells kind D vA St which).toArray] w fun e w' => e = .returned (.bool true) ∧ Dp.Left w w' W d L c := by
 have HL := Hid.mk_ hL
 have HD := Hid.mk_ hd
 have HAP := Hid.mk_ hap
 have HSZ := Hid.mk_ hsz
 obtain ⟨ab, ao, aad, acap, rfl, hal, han, hac⟩ := hA
 have HAN := Hid.mk_ han
 have HAC := Hid.mk_ hac
 clear hL hd hap hsz han hac
 go_enter Tryz.func59, Tryz.ntmps59
 go_wp2_with (refine Dp.wpList_box_row rfl 98 _ rfl (Dp.opCells kind D (.slice aad asked.length acap) St which) rfl ?_)
 intro w1 r1 z1 k1
 have hop1 := r1.ops
 obtain ⟨_, o1, o2, _, _⟩ := hop1
 go_wp2_with (at_make; refine Dp.wpList_make_row _ rfl _ _ 96 rfl 4 (.bool false) 1 Tryz.underlying96 infoBool1 rfl _ _ _ _ (asked.length + 1) rfl rfl (by omega) (by omega) (by omega) (by unfold maxLen; omega) ?_)
 intro w2 r2 z2 k2
 have r1b := r1.keep k2 (fun e => e)
 obtain ⟨_, p1, p2, _, _⟩ := r1b.ops
 have k12 := k1.trans k2
 have HCP : Hid (0 < (Dp.boolCells asked).length → ∃ ad, aad = some ad ∧ ∀ j v, (Dp.boolCells asked)[j]? = some v → w2.cell? (ad.add j) = some v) := by
  intro hp
  have hne : asked ≠ [] := by intro e; rw [e] at hp; simp [Dp.boolCells] at hp
  refine ⟨⟨ab, ao, none⟩, (HAN.out hne).1, fun j v hj => ?_⟩
  have hjl : j < asked.length := by have := (List.getElem?_eq_some_iff.1 hj).1; simpa [Dp.boolCells] using this
  have h1 := HAC.out j hjl
  have h2 := k12.cell (p := ⟨ab, ao + j, none⟩) (Dp.cell_lt h1) (fun e => e)
  have h3 : (⟨ab, ao, none⟩ : Addr).add j = ⟨ab, ao + j, none⟩ := by simp [Addr.add]
  rw [h3, h2, h1]
  simp [Dp.boolCells, hjl] at hj
  rw [hj]
 have HRL : Hid ((Dp.boolCells asked).length = asked.length) := Dp.boolCells_length asked
 have r2' : Dp.Row w2 (w.heap.size + 1) 4 (List.replicate (asked.length + 1) (.bool false)) := by first | exact r2 | (rw [z1] at r2; exact r2)
 have HRR := Hid.mk_ r2'
 clear r1 o1 o2 r2 r2'
 go_wp2_with (refine Dp.wpList_copy_head rfl _ _ 96 96 rfl 4 Tryz.underlying96 sizeBool1 (w.heap.size + 1) (asked.length + 1) (asked.length + 1) aad asked.length acap rfl rfl 4 (Dp.boolCells asked) (List.replicate (asked.length + 1) (.bool false)) HRR.out HRL.out (by omega) (by rw [HRL.out, List.length_replicate]; omega) (Dp.boolCells_one _) HCP.out ?_)
 intro w3 r3 z3 k3
 have r3' : Dp.Row w3 (w.heap.size + 1) 4 (Dp.boolCells asked ++ [.bool false]) := by
  rw [HRL.out, show asked.length + 1 - asked.length = 1 by omega] at r3; exact r3
 have hne1 : ¬ w.heap.size = w.heap.size + 1 := by omega
 have k13 : Dp.Keeps (fun _ => False) w w3 := k12.next k3 (fun q hq e => by omega)
 have ro3 := r1b.keep k3 hne1
 have HD3 := Hid.mk_ (Dp.Sd.still HD.out k13)
 have HR3 := Hid.mk_ r3'
 have HRO := Hid.mk_ ro3
 have HK3 := Hid.mk_ k13
 have hS0 : Dp.Keeps (fun _ => False) w3 w3.drew := (Dp.Keeps.refl _ _).drew
 have qx : ∀ wx, Dp.Keeps (fun _ => False) w3 wx → wx.cell? ⟨d.s, 0, none⟩ = some (.pointer (some ⟨d.b, 0, none⟩)) := fun wx kx => (HD3.out.row.keep kx (fun e => e)).cell 0
 have qn : ∀ wx, Dp.Keeps (fun _ => False) w3 wx → wx.cell? ⟨w.heap.size, 1, none⟩ = some (.int .i64 D) := fun wx kx => ((ro3.keep kx (fun e => e)).ops).2.1
 have qa : ∀ wx, Dp.Keeps (fun _ => False) w3 wx → wx.cell? ⟨w.heap.size, 2, none⟩ = some (.slice aad asked.length acap) := fun wx kx => ((ro3.keep kx (fun e => e)).ops).2.2.1
 have HPA : Hid (∀ wx, Dp.Keeps (fun _ => False) w3 wx → Calls Tryz.prog 88 #[.pointer (some ⟨d.b, 0, none⟩), .int .i64 D, .slice (some ⟨w.heap.size + 1, 0, none⟩) asked.length (asked.length + 1)] wx fun e w' => e = .returned (.tuple #[.int .i64 (Dp.docAnswer m D asked).1, .int .i64 (Dp.docAnswer m D asked).2]) ∧ Dp.Keeps (fun _ => False) wx w') := by
  intro wx kx
  refine progAnswerAll wx d.b d.G d.vs m (HD3.out.prog.keep kx (fun e => e) (fun _ _ e => e)) D _ asked ⟨w.heap.size + 1, 0, _, _, rfl, by omega, fun _ => rfl, fun i hi => ?_⟩
  rw [(HR3.out.keep kx (fun e => e)).cell, Nat.zero_add, List.getElem?_append_left (by rw [HRL.out]; exact hi)]
  simp [Dp.boolCells, hi]
 have HRA : Hid (∀ wx, Dp.Keeps (fun _ => False) w3 wx → Calls Tryz.prog 89 #[.pointer (some ⟨d.p, 0, none⟩), .int .i64 D, .slice aad asked.length acap] wx fun e w' => e = .returned (.tuple #[.int .i64 (Dp.docAnswer m D asked).1, .int .i64 (Dp.docAnswer m D asked).2]) ∧ Dp.Keeps (fun _ => False) wx w') := by
  intro wx kx
  refine refAnswer wx d.p d.g d.vr m (HD3.out.ref.keep kx (fun e => e) (fun e => e) (fun _ _ e => e)) D _ asked ⟨ab, ao, _, _, rfl, by omega, fun hne => (HAN.out hne).1, fun i hi => ?_⟩
  have h1 := HAC.out i hi
  exact ((HK3.out.trans kx).cell (p := ⟨ab, ao + i, none⟩) (Dp.cell_lt h1) (fun e => e)).trans h1
 clear r3 r3' r1b ro3 k1 k2 k3 k12 k13 p1 p2 z1 z2 z3 HCP HRR
 generalize Dp.docAnswer m D asked = DA at *
 have hgl : (asked.length : Int) ≤ (asked.length : Int) + 1 := by omega
 go_wp2
 refine Dp.wp_region_L (fun wx => Dp.Keeps (fun _ => False) w3 wx) 11 mixedP ?_
 refine' Dp.tj 0 hS0 ?_
 simp only [Act.put, Dp.tks]
 refine' Dp.tj 1 hS0 ?_
 simp only [Act.put, Dp.tks]
 refine' Dp.tj 2 hS0 ?_
 simp only [Act.put, Dp.tks]
 refine' Dp.tj 3 hS0 ?_
 simp only [Act.put, Dp.tks]
 refine' Dp.tj 4 hS0 ?_
 simp only [Act.put, Dp.tks]
 refine' Dp.tj 5 hS0 ?_
 simp only [Act.put, Dp.tks]
 refine' Dp.tj 6 hS0 ?_
 simp only [Act.put, Dp.tks]
 refine' Dp.tj 7 hS0 ?_
 simp only [Act.put, Dp.tks]
 refine' Dp.tj 8 hS0 ?_
 simp only [Act.put, Dp.tks]
 refine' Dp.tj 9 hS0 ?_
 simp only [Act.put, Dp.tks]
 refine' Dp.tj 10 hS0 ?_
 simp only [Act.put, Dp.tks]
 refine Dp.wpAnyL_one 11 rfl (by kernel_rfl) (by rfl) (fun K hK => ?_)
 go_simp
 refine (HPA.out _ hS0).mono ?_
 rintro e w4 ⟨rfl, k4⟩
 have kk4 := hS0.trans k4
 refine hK _ _ ⟨fun h => absurd h (Nat.lt_irrefl _), ?_⟩
 clear hK K k4
 refine Dp.wpAnyL_rest (by kernel_rfl) ?_
 refine' Dp.wpAny_pure 12 rfl (by kernel_rfl) (fun _ _ _ h => h) (.inl ⟨by rfl, ?hpb12⟩) ?pestb12
 case hpb12 => intro wx; go_simp; try with_reducible rfl
 simp only [Act.put, Dp.tks]
 refine' Dp.wpAny_pure 13 rfl (by kernel_rfl) (fun _ _ _ h => h) (.inl ⟨by rfl, ?hpb13⟩) ?pestb13
 case hpb13 => intro wx; go_simp; try with_reducible rfl
 simp only [Act.put, Dp.tks]
 refine' Dp.wpAny_pure 14 rfl (by kernel_rfl) (fun _ _ _ h => h) (.inl ⟨by rfl, ?hpb14⟩) ?pestb14
 case hpb14 => intro wx; go_simp; try with_reducible rfl
 simp only [Act.put, Dp.tks]
 refine' Dp.wpAny_pure 15 rfl (by kernel_rfl) (fun _ _ _ h => h) (.inl ⟨by rfl, ?hpb15⟩) ?pestb15
 case hpb15 => intro wx; go_simp; try with_reducible rfl
 simp only [Act.put, Dp.tks]
 refine' Dp.wpAny_pure 16 rfl (by kernel_rfl) (fun _ _ _ h => h) (.inl ⟨by rfl, ?hpb16⟩) ?pestb16
 case hpb16 => intro wx; go_simp; try with_reducible rfl
 simp only [Act.put, Dp.tks]
 refine wpAny_done (by kernel_rfl) ?_ _
 have hd4 := HD3.out.row.keep kk4 (fun e => e)
 have ro4 := HRO.out.keep kk4 (fun e => e)
 have hS4 : Dp.Keeps (fun _ => False) w4 w4.drew := (Dp.Keeps.refl _ _).drew
 clear qx qn qa
 have qy : ∀ wx, Dp.Keeps (fun _ => False) w4 wx → wx.cell? ⟨d.s, 1, none⟩ = some (.pointer (some ⟨d.p, 0, none⟩)) := fun wx kx => (hd4.keep kx (fun e => e)).cell 1
 have qn : ∀ wx, Dp.Keeps (fun _ => False) w4 wx → wx.cell? ⟨w.heap.size, 1, none⟩ = some (.int .i64 D) := fun wx kx => ((ro4.keep kx (fun e => e)).ops).2.1
 have qa : ∀ wx, Dp.Keeps (fun _ => False) w4 wx → wx.cell? ⟨w.heap.size, 2, none⟩ = some (.slice aad asked.length acap) := fun wx kx => ((ro4.keep kx (fun e => e)).ops).2.2.1
 have HK4 := Hid.mk_ kk4
 clear hS0 kk4 hd4 ro4
 go_wp2
 refine Dp.wp_region_L (fun wx => Dp.Keeps (fun _ => False) w4 wx) 8 mixedP ?_
 refine' Dp.tj 0 hS4 ?_
 simp only [Act.put, Dp.tks]
 refine' Dp.tj 1 hS4 ?_
 simp only [Act.put, Dp.tks]
 refine' Dp.tj 2 hS4 ?_
 simp only [Act.put, Dp.tks]
 refine' Dp.tj 3 hS4 ?_
 simp only [Act.put, Dp.tks]
 refine' Dp.tj 4 hS4 ?_
 simp only [Act.put, Dp.tks]
 refine' Dp.tj 5 hS4 ?_
 simp only [Act.put, Dp.tks]
 refine' Dp.tj 6 hS4 ?_
 simp only [Act.put, Dp.tks]
 refine' Dp.tj 7 hS4 ?_
 simp only [Act.put, Dp.tks]
 refine Dp.wpAnyL_one 8 rfl (by kernel_rfl) (by rfl) (fun K hK => ?_)
 go_simp
 refine (HRA.out _ (HK4.out.trans hS4)).mono ?_
 rintro e w5 ⟨rfl, k5⟩
 have kk5 := HK4.out.trans (hS4.trans k5)
 refine hK _ _ ⟨fun h => absurd h (Nat.lt_irrefl _), ?_⟩
 clear hK K k5
 refine Dp.wpAnyL_rest (by kernel_rfl) ?_
 refine' Dp.wpAny_pure 9 rfl (by kernel_rfl) (fun _ _ _ h => h) (.inl ⟨by rfl, ?hpf9⟩) ?pestf9
 case hpf9 => intro wx; go_simp; try with_reducible rfl
 simp only [Act.put, Dp.tks]
 refine' Dp.wpAny_pure 10 rfl (by kernel_rfl) (fun _ _ _ h => h) (.inl ⟨by rfl, ?hpf10⟩) ?pestf10
 case hpf10 => intro wx; go_simp; try with_reducible rfl
 simp only [Act.put, Dp.tks]
 refine' Dp.wpAny_pure 11 rfl (by kernel_rfl) (fun _ _ _ h => h) (.inl ⟨by rfl, ?hpf11⟩) ?pestf11
 case hpf11 => intro wx; go_simp; try with_reducible rfl
 simp only [Act.put, Dp.tks]
 refine' Dp.wpAny_pure 12 rfl (by kernel_rfl) (fun _ _ _ h => h) (.inl ⟨by rfl, ?hpf12⟩) ?pestf12
 case hpf12 => intro wx; go_simp; try with_reducible rfl
 simp only [Act.put, Dp.tks]
 refine' Dp.wpAny_pure 13 rfl (by kernel_rfl) (fun _ _ _ h => h) (.inl ⟨by rfl, ?hpf13⟩) ?pestf13
 case hpf13 => intro wx; go_simp; try with_reducible rfl
 simp only [Act.put, Dp.tks]
 refine wpAny_done (by kernel_rfl) ?_ _
 have r5 := HR3.out.keep kk5 (fun e => e)
 have ro5 := HRO.out.keep kk5 (fun e => e)
 have kw5 := HK3.out.trans kk5
 obtain ⟨_, _, oa5, _, _⟩ := ro5.ops
 have cl5 : w5.cell? ⟨w.heap.size + 1, asked.length, none⟩ = some (.bool false) := by
  rw [r5.cell, List.getElem?_append_right (by rw [HRL.out]; omega), HRL.out, Nat.sub_self]; rfl
 have HR5 := Hid.mk_ r5
 have HO5 := Hid.mk_ ro5
 have HK5 := Hid.mk_ kw5
 clear qy qn qa hS4 kk5 r5 ro5 kw5 HK4 HPA HRA HR3 HRO HK3
 generalize DA.1 = A1 at *
 generalize DA.2 = A2 at *
 go_wp2
 clear cl5 oa5
 go_loopw [12, 13] (fun ok i wr => ∃ k : Nat, k ≤ asked.length + 1 ∧ ok = .bool true ∧ i = .int .i64 k ∧ Hid (Dp.Row wr (w.heap.size + 1) 4 (Dp.digs Dp.alt k ++ (Dp.boolCells asked ++ [Value.bool false]).drop k)) ∧ Hid (Dp.Row wr w.heap.size 98 (Dp.opCells kind D (.slice aad asked.length acap) St which)) ∧ Hid (Dp.Keeps (fun _ => False) w wr)) (fun _ i _ => asked.length + 1 - (intOf i).toNat)
 case atStart => exact ⟨0, Nat.zero_le _, rfl, rfl, by simpa [Dp.digs, Hid] using HR5.out, HO5, HK5⟩
 case round =>
  obtain ⟨k, hk, rfl, rfl, HRk, HOk, HKk⟩ := hrel
  have hL2 : (Dp.boolCells asked ++ [Value.bool false]).length = asked.length + 1 := by rw [List.length_append, HRL.out]; rfl
  by_cases hlt : k < asked.length + 1
  ·have lk := HRk.out
   have ck : wr.cell? ⟨w.heap.size + 1, k, none⟩ = some ((Dp.boolCells asked ++ [Value.bool false])[k]'(by omega)) := by
    rw [lk.cell, List.getElem?_append_right (by rw [Dp.digs_length]; omega), Dp.digs_length, Nat.sub_self, List.getElem?_drop, Nat.add_zero, List.getElem?_eq_getElem (by omega)]
   have fk := lk.frozen k
   obtain ⟨_, _, oak, _, _⟩ := HOk.out.ops
   have HLK : Hid (Dp.Row (wr.setCell ⟨w.heap.size + 1, k, none⟩ (Dp.alt k)) (w.heap.size + 1) 4 (Dp.digs Dp.alt (k + 1) ++ (Dp.boolCells asked ++ [Value.bool false]).drop (k + 1))) := by
    have h := lk.set k (Dp.alt k)
    rw [Dp.digs_set _ _ _ (by omega)] at h
    exact h
   have HKK : Hid (Dp.Keeps (fun _ => False) w (wr.setCell ⟨w.heap.size + 1, k, none⟩ (Dp.alt k))) := HKk.out.setCell (p := ⟨w.heap.size + 1, k, none⟩) (.inl (by show w.heap.size ≤ w.heap.size + 1; omega)) _
   have HOO : Hid (Dp.Row (wr.setCell ⟨w.heap.size + 1, k, none⟩ (Dp.alt k)) w.heap.size 98 (Dp.opCells kind D (.slice aad asked.length acap) St which)) := HOk.out.setOther _ _ (show w.heap.size ≠ w.heap.size + 1 by omega)
   unfold Dp.alt at HLK HKK HOO
   clear lk
   by_cases hka : k < asked.length
   ·have hck : (Dp.boolCells asked ++ [Value.bool false])[k]'(by omega) = .bool asked[k] := by
     rw [List.getElem_append_left (by rw [HRL.out]; exact hka)]; simp [Dp.boolCells]
    rw [hck] at ck
    obtain ⟨rfl, hab⟩ := HAN.out (by intro e; simp [e] at hka)
    have h1 := HAC.out k hka
    have cak : wr.cell? ⟨ab, ao + k, none⟩ = some (.bool asked[k]) := (HKk.out.cell (p := ⟨ab, ao + k, none⟩) hab (fun e => e)).trans h1
    have hneB : ((k : Int) == (asked.length : Int)) = false := beq_eq_false_iff_ne.2 (by omega)
    have hlt' : (k : Int) < (asked.length : Int) + 1 := by omega
    clear hL2 hck h1
    generalize asked[k] = x at *
    go_wp2
    go_region
    go_wp2
    go_roundw
    case rel => exact ⟨k + 1, by omega, rfl, by go_num, HLK.out.drew, HOO.out.drew, HKK.out.drew⟩
    case measure => simp [intOf]; omega
   ·have ek : k = asked.length := by omega
    have hck : (Dp.boolCells asked ++ [Value.bool false])[k]'(by omega) = .bool false := by
     rw [List.getElem_append_right (by rw [HRL.out]; omega)]; simp [HRL.out, ek]
    rw [hck] at ck
    clear hL2 hck
    subst ek
    have hlt' : (asked.length : Int) < (asked.length : Int) + 1 := by omega
    go_wp2
    go_region
    go_wp2
    go_roundw
    case rel => exact ⟨asked.length + 1, by omega, rfl, by go_num, HLK.out.drew, HOO.out.drew, HKK.out.drew⟩
    case measure => simp [intOf]
  ·obtain rfl : k = asked.length + 1 := by omega
   have lr : Dp.Row wr (w.heap.size + 1) 4 (Dp.digs Dp.alt (asked.length + 1)) := by
    have h := HRk.out
    rw [List.drop_of_length_le (by rw [hL2]; exact Nat.le_refl _), List.append_nil] at h
    exact h
   have rW := HL.out.row.keep HKk.out (fun e => e)
   have hown := HL.out.l4.own.keep HKk.out (fun _ _ e => e)
   have c4 : wr.cell? ⟨W, 4, none⟩ = some L.v4 := rW.cell 4
   have HX4 : Hid (L.x4.length ≤ 2000000) := by unfold Hid; have := HSZ.out.2.2.2.1; omega
   have NW : Hid (∀ j u, [Value.slice (some ⟨w.heap.size + 1, 0, none⟩) (asked.length + 1) (asked.length + 1)][j]? = some u → (wr.alloc (.cells #[.slice (some ⟨w.heap.size + 1, 0, none⟩) (asked.length + 1) (asked.length + 1)] 96)).cell? ((⟨wr.heap.size, 0, none⟩ : Addr).add j) = some u) := fun j u h => Dp.cell_one3 wr _ _ j u h
   have kal := (Dp.Keeps.refl (fun _ => False) wr).alloc (.cells #[.slice (some ⟨w.heap.size + 1, 0, none⟩) (asked.length + 1) (asked.length + 1)] 96)
   have HOW := Hid.mk_ (hown.keep kal (fun _ _ e => e))
   have HRW := Hid.mk_ rW
   have HLR := Hid.mk_ lr
   have HO4 := Hid.mk_ hown
   have hwr := HKk.out.size
   clear HRk HOk lr rW hown hL2
   go_wp2_with (at_builtin; refine Dp.wpList_append_Own rfl _ _ 53 rfl 96 (.slice none 0 0) 24 Tryz.underlying53 infoBools1 rfl L.v4 L.x4 rfl HOW.out ⟨wr.heap.size, 0, none⟩ 1 1 [.slice (some ⟨w.heap.size + 1, 0, none⟩) (asked.length + 1) (asked.length + 1)] rfl rfl NW.out (fun x hx => by simp at hx; subst hx; rfl) (by omega) (by have := HX4.out; unfold maxLen; omega) (by have := HX4.out; omega) ?_)
   intro v4' w6 o6 k6 s6
   have k6' : Dp.Keeps (fun q => L.v4.ownBlock = some q) wr w6 := (kal.mono (fun _ _ e => e.elim)).trans k6
   have r6 := HRW.out.keep k6' (fun e => HO4.out.ne HRW.out (by decide) W e rfl)
   have c6 : w6.cell? ⟨W, 4, none⟩ = some L.v4 := r6.cell 4
   have f6 := r6.frozen 4
   obtain ⟨a6, q6, e6⟩ := o6.isSlice
   generalize hN6 : (L.x4 ++ [Value.slice (some ⟨w.heap.size + 1, 0, none⟩) (asked.length + 1) (asked.length + 1)]).length = N6 at e6
   clear hN6
   subst e6
   have kset : Dp.Keeps (fun q => q = W) w6 (w6.setCell ⟨W, 4, none⟩ (.slice a6 N6 q6)) := Dp.Keeps.setCell (S := fun q => q = W) (p := ⟨W, 4, none⟩) (Dp.Keeps.refl _ _) (.inr rfl) _
   have HFF : Hid (Dp.Left w (w6.setCell ⟨W, 4, none⟩ (.slice a6 N6 q6)) W d L c) := by
    have rowF := r6.set 4 (.slice a6 N6 q6)
    have hWl := HL.out.row.lt
    have kF : Dp.Keeps (fun j => j = W ∨ L.v4.ownBlock = some j) w (w6.setCell ⟨W, 4, none⟩ (.slice a6 N6 q6)) := ((HKk.out.mono (fun _ _ e => e.elim)).next k6' (fun _ _ e => .inr e)).next kset (fun _ _ e => .inl e)
    have hf : (Value.slice a6 N6 q6).ownBlock = L.v4.ownBlock ∨ ∀ g, (Value.slice a6 N6 q6).ownBlock = some g → w.heap.size ≤ g := by
     rcases s6.out with hh | hh
     ·exact .inl hh.1
     ·refine .inr fun g hg => ?_
      rw [hh.1] at hg
      simp at hg
      omega
    have oF := o6.keep kset (fun q hq e => o6.ne r6 (by decide) q hq e)
    have hlb : ¬ (w.heap.size + 1 = W) := by omega
    have lF : Dp.Row (w6.setCell ⟨W, 4, none⟩ (.slice a6 N6 q6)) (w.heap.size + 1) 4 (Dp.digs Dp.alt (asked.length + 1)) := (HLR.out.keep k6' (fun e => by have := HL.out.l4.own.lt _ e; omega)).keep kset hlb
    have hB := Dp.Lists.bools HL.out kF rowF oF (by omega) (by omega) _ lF (fun k hk => by simp [Dp.digs, Dp.alt, hk]) hf
    obtain ⟨s1, s2, s3, s4, s5⟩ := HSZ.out
    refine ⟨⟨_, L.v0, L.v1, L.v2, L.v3, .slice a6 N6 q6, L.v5, L.x1, L.x2, L.x3, _, L.x5⟩, m, hB, rfl, Dp.Sd.keep HD.out kF (fun q hq e => ?_), ⟨by show L.x1.length ≤ _; omega, by show L.x2.length ≤ _; omega, s3, by show (L.x4 ++ _).length ≤ _; rw [List.length_append, List.length_singleton]; omega, s5⟩, fun k hk => ?_, kF.mono (fun q _ e => ?_)⟩
    ·rcases e with e | e
     ·exact HAP.out q (.inl e) hq
     ·exact HAP.out q (.inr (.inr (.inr (.inr (.inr (.inl e)))))) hq
    ·rcases hk with e | (e | e) | e | e | e | e | e
     ·exact .inl (.inl e)
     ·exact .inl (.inr (.inl e))
     ·exact .inr (by omega)
     ·exact .inl (.inr (.inr (.inl e)))
     ·exact .inl (.inr (.inr (.inr (.inl e))))
     ·exact .inl (.inr (.inr (.inr (.inr (.inl e)))))
     ·rcases hf with hf | hf
      ·exact .inl (.inr (.inr (.inr (.inr (.inr (.inl (hf ▸ e)))))))
      ·exact .inr (hf k e)
     ·exact .inl (.inr (.inr (.inr (.inr (.inr (.inr e))))))
    ·rcases e with e | e
     ·exact .inr (.inl e)
     ·exact .inr (.inr (.inr (.inr (.inr (.inr (.inl e))))))
   clear k6 s6 o6 k6' r6 kset NW HOW HRW HLR HO4 kal
   go_wp2
   go_ret
   exact ⟨rfl, HFF.out⟩
set_option maxRecDepth 100000 in
set_option maxHeartbeats 1000000 in
theorem lawStep9 (w : World) (W : Nat) (d : Dp.Sd) (m : Dp.Mach) (L : Dp.LSt) (c : Nat) (kind n : Int) (vA : Value) (St : ByteArray) (which : Bool) (asked : List Bool) (hL : L.at w W) (hd : d.at w m) (hap : ∀ k, L.F W k → ¬ d.In k) (hsz : L.sz c) (hc : c ≤ 2000000) (hA : Dp.AskedAt w vA asked) (hk : kind = 9) :
  Calls Tryz.prog 35 #[.pointer (some ⟨W, 0, none⟩), .pointer (some ⟨d.s, 0, none⟩), .agg (Dp.opCells kind n vA St which).toArray] w fun e w' => e = .returned (.bool true) ∧ Dp.Left w w' W d L c := by
 subst hk
 have HC : Hid (∀ w1, Dp.Keeps (fun _ => False) w w1 → Calls Tryz.prog 59 #[.pointer (some ⟨W, 0, none⟩), .pointer (some ⟨d.s, 0, none⟩), .agg (Dp.opCells 9 n vA St which).toArray] w1 fun e w' => e = .returned (.bool true) ∧ Dp.Left w w' W d L c) := by
  intro w1 k1
  refine (lawAnswers w1 W d m L c 9 n vA St which asked (Dp.Lists.still hL k1) (Dp.Sd.still hd k1) hap hsz hc (hA.keep k1 (fun _ _ e => e))).mono ?_
  rintro e w' ⟨he, L', m', h1, h2, h3, h4, h5, h6⟩
  exact ⟨he, L', m', h1, h2, h3, h4, fun k hk => (h5 k hk).imp id (fun e => by have := k1.size; omega), (k1.mono (fun _ _ e => e.elim)).trans h6⟩
 clear hL hd hap hsz hA
 go_enter Tryz.func35, Tryz.ntmps35
 go_wp2_with (refine Dp.wpList_box_row rfl 98 _ rfl (Dp.opCells 9 n vA St which) rfl ?_)
 intro w1 r1 z1 k1
 obtain ⟨o0, _, _, _, _⟩ := r1.ops
 have HC1 := Hid.mk_ (HC.out w1 k1)
 have HR1 := Hid.mk_ (Dp.row_nil r1)
 clear HC r1 k1 z1
 go_wp2_with (refine Dp.wpList_load_in rfl 98 _ rfl w.heap.size 0 rfl 98 [] _ _ HR1.out rfl _ Tryz.underlying98 rfl sizeOp9 ?_; intro _)
 refine HC1.out.mono ?_
 rintro e w2 ⟨rfl, hl⟩
 have HLF := Hid.mk_ hl
 clear hl o0
 go_wp2
 go_ret
 exact ⟨rfl, HLF.out⟩
end Go.Proofs.YtdipojfngdceoabGreatDoor
