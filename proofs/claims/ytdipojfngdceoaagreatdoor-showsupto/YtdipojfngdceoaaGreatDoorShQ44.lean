/- Steps on the way: LawFirst, LawShows. -/
import Derived.Test.YtdipojfngdceoaaGreatDoorShQ38
import Derived.Test.YtdipojfngdceoaaGreatDoorShQ43
namespace Go.Proofs.YtdipojfngdceoaaGreatDoor
open Go.RowKit
namespace Dp
def firstWordsL : List Int := [746586117, 8388608]
theorem first_ok : newOk firstWordsL [] = true := by decide +kernel
theorem first_one : (newMach firstWordsL []).step.2 = 0 := by decide +kernel
theorem first_two : (newMach firstWordsL []).step.1.step.2 = 0 := by decide +kernel
theorem first_end : (newMach firstWordsL []).step.1.step.1.s = ⟨1, 2, 5, true, [0, 5, 0, 0, 0, 0, 0, 0]⟩ := by kernel_rfl
end Dp
set_option maxRecDepth 100000 in
set_option maxHeartbeats 1000000 in
theorem lawFirst (w : World) : Calls Tryz.prog 9 #[] w fun e w' => e = .returned (.bool true) ∧ Dp.Keeps (fun _ => False) w w' := by
 go_enter Tryz.func9, Tryz.ntmps9
 go_wp2_with (refine Dp.wpList_box_row rfl 32 _ rfl [Dp.nilV, Dp.nilV, Dp.nilV, Dp.nilV, Dp.nilV, Dp.nilV] rfl ?_)
 intro w1 r1 z1 k1
 have k2 := (Dp.Keeps.refl (fun _ => False) w1).alloc (.cells #[.int .i64 746586117, .int .i64 8388608] 3)
 have hI : Dp.Ints (w1.alloc (.cells #[.int .i64 746586117, .int .i64 8388608] 3)) (.slice (some ⟨w1.heap.size, 0, none⟩) 2 2) Dp.firstWordsL := by
  have hr := Dp.Row.allocNew w1 3 [.int .i64 746586117, .int .i64 8388608]
  refine ⟨w1.heap.size, 0, some ⟨w1.heap.size, 0, none⟩, 2, rfl, by simp [Dp.firstWordsL], fun _ => ⟨rfl, hr.lt⟩, fun i hi => ?_⟩
  have hi' : i < 2 := hi
  rcases (by omega : i = 0 ∨ i = 1) with rfl | rfl
  ·exact hr.cell 0
  ·exact hr.cell 1
 rw [z1] at hI
 have hT : Dp.Texts (w1.alloc (.cells #[.int .i64 746586117, .int .i64 8388608] 3)) (.slice none 0 0) [] := ⟨0, 0, none, 0, rfl, by simp, fun e => absurd rfl e, fun i hi => absurd hi (by simp)⟩
 have hR := r1.keep k2 (fun e => e)
 have HIT := Hid.mk_ (And.intro hI (And.intro hT hR))
 clear hI hT hR r1
 go_wp2_with fail
 refine (lawOpens _ w.heap.size _ _ Dp.firstWordsL [] HIT.out.1 HIT.out.2.1 (fun x hx => by simp [Dp.firstWordsL] at hx; rcases hx with rfl | rfl <;> decide) HIT.out.2.2 (fun h => absurd rfl h)).mono ?_
 rintro e w3 ⟨rfl, k3, hcase⟩
 obtain ⟨s, b, p, g, G, vs, vr, sg, scap, v2, v3, v5, hsd, hkp, hb, _, _⟩ : ∃ s b p g G vs vr sg scap v2 v3 v5, Dp.Side w3 s b p g G vs vr (Dp.newMach Dp.firstWordsL []) ∧ (∀ w'', Dp.Keeps (Dp.Foot b p g) w3 w'' → Dp.KeptOk w'' w.heap.size (.slice (some ⟨sg, 0, none⟩) 1 scap) Dp.nilV v2 v3 Dp.nilV v5 ∧ w''.cell? ⟨sg, 0, none⟩ = some (.pointer (some ⟨s, 0, none⟩))) ∧ (w1.alloc (.cells #[.int .i64 746586117, .int .i64 8388608] 3)).heap.size ≤ b ∧ (w1.alloc (.cells #[.int .i64 746586117, .int .i64 8388608] 3)).heap.size ≤ p ∧ (w1.alloc (.cells #[.int .i64 746586117, .int .i64 8388608] 3)).heap.size ≤ g := by
  rcases hcase with ⟨h, _⟩ | ⟨_, h⟩
  ·rw [Dp.first_ok] at h; exact absurd h (by decide)
  ·exact h
 have hb' : w.heap.size ≤ b := by simp at hb; omega
 have k03 : Dp.Keeps (fun _ => False) w w3 := (k1.trans k2).next k3 (fun q hq e => by omega)
 obtain ⟨hko, hsc⟩ := hkp w3 (Dp.Keeps.refl _ _)
 have c0 := hko.row.cell 0
 simp only [List.getElem?_cons_zero] at c0
 obtain ⟨d0, _⟩ := hsd.cells
 have HPM := Hid.mk_ hsd.prog
 clear hkp hko hsd hcase hb HIT k1 k2 k3
 go_wp2_with fail
 refine (progMStep w3 b G vs _ HPM.out).mono ?_
 rintro e w4 ⟨rfl, k4, p4⟩
 rw [Dp.first_one]
 have HP4 := Hid.mk_ p4
 clear c0 hsc d0 p4
 go_wp2_with fail
 refine (progMStep w4 b G vs _ HP4.out).mono ?_
 rintro e w5 ⟨rfl, k5, p5⟩
 rw [Dp.first_two]
 have HP5 := Hid.mk_ p5
 clear p5
 go_wp2_with fail
 refine (progMLook w5 b G vs _ HP5.out).mono ?_
 rintro e w6 ⟨rfl, k6⟩
 rw [Dp.first_end]
 have HK6 : Hid (Dp.Keeps (fun _ => False) w w6) := ((k03.next k4 (fun q hq e => by omega)).next k5 (fun q hq e => by omega)).trans k6
 obtain ⟨R, hR⟩ : ∃ R : Int, R = Dp.root (Dp.newMach Dp.firstWordsL []).step.1.step.1.cells := ⟨_, rfl⟩
 rw [← hR]
 clear hR k03 k4 k5 k6
 go_wp2_with (refine Dp.wpList_alloc_row rfl 74 rfl _ zeroState ?_)
 intro w7 r7 z7 k7
 have HR7 := Hid.mk_ (Dp.row_nil r7)
 go_wp2_with (refine Dp.wpList_store_in rfl 74 _ _ rfl w6.heap.size 0 rfl (Dp.stCells ⟨1, 2, 5, true, [0, 5, 0, 0, 0, 0, 0, 0]⟩ R) rfl 74 [] _ [] HR7.out rfl rfl (by rw [sizeState]; rfl) (Dp.stCells_one _ _) ?_)
 intro w8 r8 z8 k8
 have r8' : Dp.Row w8 w6.heap.size 74 (Dp.stCells ⟨1, 2, 5, true, [0, 5, 0, 0, 0, 0, 0, 0]⟩ R) := by simpa using r8
 have a1 : w8.cell? ⟨w6.heap.size, 1, none⟩ = some (.int .i64 2) := r8'.cell 1
 have a2 : w8.cell? ⟨w6.heap.size, 2, none⟩ = some (.int .i64 5) := r8'.cell 2
 have a3 : w8.cell? ⟨w6.heap.size, 3, none⟩ = some (.bool true) := r8'.cell 3
 have a5 : w8.cell? ⟨w6.heap.size, 5, none⟩ = some (.int .i64 5) := r8'.cell 5
 have HK8 : Hid (Dp.Keeps (fun _ => False) w w8) := HK6.out.trans (k7.next k8 (fun k hk e => by omega))
 clear r7 r8 r8' HR7 k7 k8 z7 z8
 go_wp2
 go_ret
 exact ⟨rfl, HK8.out⟩
theorem sizeMadeA : (Tryz.prog.info? 36).map (·.size) = some 2 := by kernel_rfl
set_option maxRecDepth 100000 in
set_option maxHeartbeats 1000000 in
theorem lawPlay0A (w : World) (W : Nat) (ad : Option Addr) (cap : Nat) (v1 v2 v3 v4 v5 : Value) (hL : ∀ w', Dp.Keeps (fun _ => False) w w' → Dp.KeptOk w' W (.slice ad 0 cap) v1 v2 v3 v4 v5) (oad : Option Addr) (ol ocap : Nat) (most : Int) :
  Calls Tryz.prog 14 #[.pointer (some ⟨W, 0, none⟩), .slice oad ol ocap, .int .i64 most] w fun e w' => e = .returned (.bool true) ∧ Dp.Keeps (fun _ => False) w w' := by
 have HK := Hid.mk_ hL
 have cw0 := (hL w (Dp.Keeps.refl _ _)).row.cell 0
 simp only [List.getElem?_cons_zero] at cw0
 clear hL
 go_enter Tryz.func14, Tryz.ntmps14
 go_wp2
 clear cw0
 go_loopw [8, 9, 10, 11, 12] (fun i _ _ _ _ wr => i = .int .i64 0 ∧ Dp.Keeps (fun _ => False) w wr) (fun _ _ _ _ _ _ => 0)
 case atStart => exact ⟨rfl, Dp.Keeps.refl _ _⟩
 case round =>
  obtain ⟨rfl, kk⟩ := hrel
  by_cases hlt : 0 < ol
  ·go_wp2
   go_loopw [13, 14] (fun i _ wr => i = .int .i64 0 ∧ Dp.Keeps (fun _ => False) w wr) (fun _ _ _ => 0)
   case atStart => exact ⟨rfl, kk⟩
   case round =>
    obtain ⟨rfl, kk⟩ := hrel
    have HK3 := Hid.mk_ (HK.out wr kk)
    go_wp2_with fail
    refine (lawKept wr W _ _ v2 v3 _ v5 HK3.out.row HK3.out.l1 HK3.out.l2 HK3.out.l3 HK3.out.l4 HK3.out.l5).mono ?_
    rintro e w4 ⟨rfl, nn, rfl⟩
    have HK4 := Hid.mk_ (kk.drewN nn)
    go_wp2
    go_ret
    exact ⟨rfl, HK4.out⟩
  ·go_wp2
   go_loopw [13, 14] (fun i _ wr => i = .int .i64 0 ∧ Dp.Keeps (fun _ => False) w wr) (fun _ _ _ => 0)
   case atStart => exact ⟨rfl, kk⟩
   case round =>
    obtain ⟨rfl, kk⟩ := hrel
    have HK3 := Hid.mk_ (HK.out wr kk)
    go_wp2_with fail
    refine (lawKept wr W _ _ v2 v3 _ v5 HK3.out.row HK3.out.l1 HK3.out.l2 HK3.out.l3 HK3.out.l4 HK3.out.l5).mono ?_
    rintro e w4 ⟨rfl, nn, rfl⟩
    have HK4 := Hid.mk_ (kk.drewN nn)
    go_wp2
    go_ret
    exact ⟨rfl, HK4.out⟩
theorem lawStepU (w : World) (W : Nat) (d : Dp.Sd) (m : Dp.Mach) (L : Dp.LSt) (c : Nat) (eb : Addr) (o : Dp.SOp) (hS : o.St.size ≤ 1048576) (hL : L.at w W) (hd : d.at w m) (hap : ∀ k, L.F W k → ¬ d.In k) (hsz : L.sz c) (hc : c ≤ 2000000) (he : Dp.ErrAt w eb) (hp0 : d.p ≠ 0) (hk : o.kind ≤ 8) :
  Calls Tryz.prog 32 #[.pointer (some ⟨W, 0, none⟩), .pointer (some ⟨d.s, 0, none⟩), .agg (Dp.opCells o.kind o.n o.vA o.St o.which).toArray] w fun e w' => e = .returned (.bool true) ∧ Dp.Left w w' W d L c := by
 by_cases h5 : o.kind ≤ 5
 ·exact lawStepLow w W d m L c _ _ _ _ _ hL hd hap hsz h5
 rcases (by omega : o.kind = 6 ∨ o.kind = 7 ∨ o.kind = 8) with e | e | e
 ·exact lawStep6 w W d m L c _ _ _ _ _ hL hd hap hsz hc e
 ·exact lawStep7 w W d m L c eb _ _ _ _ _ hL hd hap hsz hc he hS e
 ·exact lawStep8 w W d m L c eb _ _ _ _ _ hL hd hap hsz hc he hp0 hS e
theorem lawPlayed (w : World) (W B : Nat) (ds : List Dp.Sd) (ms : Nat → Dp.Mach) (L : Dp.LSt) (eb : Addr) (h : Dp.OpenSt B w W ds ms L) (hd : ds.length ≤ 4) (hf : L.few 2200000 16 16) (hB : 0 < B) (ops : List Dp.SOp) (hol : ops.length ≤ 1048576) (hE : ∀ w', Dp.Keeps (fun k => B ≤ k) w w' → Dp.ErrAt w' eb) (most : Int) (hm : 6 ≤ most ∧ most ≤ 100) (P : World → Dp.SOp → Prop)
  (hstep : ∀ (w' : World) (d : Dp.Sd) (m : Dp.Mach) (L : Dp.LSt) (c : Nat) (o : Dp.SOp), P w' o → L.at w' W → d.at w' m → (∀ k, L.F W k → ¬ d.In k) → L.sz c → c ≤ 2000000 → Dp.ErrAt w' eb → d.p ≠ 0 → o.kind ≤ most → Calls Tryz.prog 32 #[.pointer (some ⟨W, 0, none⟩), .pointer (some ⟨d.s, 0, none⟩), .agg (Dp.opCells o.kind o.n o.vA o.St o.which).toArray] w' fun e w'' => e = .returned (.bool true) ∧ Dp.Left w' w'' W d L c)
  (hP : ∀ w', Dp.Keeps (fun k => B ≤ k) w w' → ∀ o ∈ ops, P w' o) (ob oo ocap : Nat) (oad : Option Addr) (hoad : ops ≠ [] → oad = some ⟨ob, oo, none⟩)
  (hA : ∀ x ∈ ops, x.vA.oneCell' = true) (hN : ∀ x ∈ ops, -9223372036854775808 ≤ x.kind ∧ x.kind ≤ 9223372036854775807)
  (hO : ∀ w', Dp.Keeps (fun k => B ≤ k) w w' → ∀ i (hi : i < ops.length), ∀ j, j < 5 → w'.cell? ⟨ob, oo + i * 5 + j, none⟩ = ops[i].cells[j]?) :
  Calls Tryz.prog 14 #[.pointer (some ⟨W, 0, none⟩), .slice oad ops.length ocap, .int .i64 most] w fun e w' => e = .returned (.bool true) ∧ Dp.Keeps (fun k => B ≤ k) w w' := by
 obtain ⟨f1, f4, f2, f3, f5⟩ := hf
 have hsz : L.sz 0 := ⟨by rw [f1]; simp, by omega, f3, by rw [f4]; simp, f5⟩
 by_cases hds : ds = []
 ·subst hds
  obtain ⟨ad, cap, ev⟩ := h.own0.isSlice
  refine (lawPlay0A w W ad cap L.v1 L.v2 L.v3 L.v4 L.v5 (fun w' k => ?_) oad ops.length ocap most).mono ?_
  ·have hk := Dp.LSt.kept (Dp.Lists.still h.lists k) hsz (by omega)
   rw [ev] at hk
   exact hk
  ·rintro e w' ⟨he, k⟩
   exact ⟨he, k.mono (fun _ _ e => e.elim)⟩
 ·obtain ⟨sg, scap, hp⟩ := h.play hds
  obtain ⟨nn, hnn⟩ : ∃ nn, ds.length = nn + 1 := ⟨ds.length - 1, by have := List.length_pos_iff.2 hds; omega⟩
  exact lawPlayA w W B 0 sg scap ds ms L eb hp hsz nn hnn (by omega) hB ops (by omega) hE most hm P hstep hP ob oo ocap oad hoad hA hN hO
set_option maxRecDepth 100000 in
set_option maxHeartbeats 1000000 in
theorem lawShows (w : World) (vW vT : Value) (words : List Int) (srcs : List (List UInt8)) (hW : Dp.Ints w vW words) (hT : Dp.Texts w vT srcs) (h64 : ∀ x ∈ words, -9223372036854775808 ≤ x ∧ x ≤ 9223372036854775807) (eb : Addr) (he : Dp.ErrAt w eb)
  (ops : List Dp.SOp) (ob oo ocap : Nat) (oad : Option Addr) (hoad : ops ≠ [] → oad = some ⟨ob, oo, none⟩ ∧ ob < w.heap.size) (hol : ops.length ≤ 1048576)
  (hA : ∀ x ∈ ops, x.vA.oneCell' = true) (hN : ∀ x ∈ ops, -9223372036854775808 ≤ x.kind ∧ x.kind ≤ 9223372036854775807) (hSt : ∀ x ∈ ops, x.St.size ≤ 1048576)
  (hO : ∀ i (hi : i < ops.length), ∀ j, j < 5 → w.cell? ⟨ob, oo + i * 5 + j, none⟩ = ops[i].cells[j]?) :
  Calls Tryz.prog 5 #[.agg #[vW, vT], .slice oad ops.length ocap] w fun e w' => e = .returned (.bool true) ∧ Dp.Keeps (fun _ => False) w w' := by
 have HW := Hid.mk_ hW
 have HT := Hid.mk_ hT
 have H64 := Hid.mk_ h64
 have HA := Hid.mk_ hA
 have HN := Hid.mk_ hN
 have HO := Hid.mk_ hO
 have HOA := Hid.mk_ hoad
 have HE := Hid.mk_ he
 have HSt := Hid.mk_ hSt
 have h0 : 0 < w.heap.size := Dp.cell_lt he
 obtain ⟨_, _, wad, wcap, rfl, _⟩ := hW
 obtain ⟨tb, _, tad, tcap, rfl, _, htn, _⟩ := hT
 have HTN := Hid.mk_ htn
 clear h64 hA hN hO hoad he hSt htn
 go_enter Tryz.func5, Tryz.ntmps5
 go_wp2_with (refine Dp.wpList_box_row rfl 36 _ rfl [.slice wad words.length wcap, .slice tad srcs.length tcap] rfl ?_)
 intro w1 r1 z1 k1
 have HR1 := Hid.mk_ r1
 clear r1
 go_wp2_with (refine Dp.wpList_box_row rfl 32 _ rfl [Dp.nilV, Dp.nilV, Dp.nilV, Dp.nilV, Dp.nilV, Dp.nilV] rfl ?_)
 intro w2 r2 z2 k2
 have HR2 := Hid.mk_ r2
 clear r2
 go_wp2_with fail
 refine (lawFirst w2).mono ?_
 rintro e w3 ⟨rfl, k3⟩
 have kk3 : Dp.Keeps (fun _ => False) w w3 := (k1.trans k2).trans k3
 have HR3 := Hid.mk_ (Dp.row_nil (HR1.out.keep (k2.trans k3) (fun e => e)))
 have HI3 := Hid.mk_ (HW.out.still kk3)
 have HT3 := Hid.mk_ (HT.out.still kk3)
 have HOS : Hid (Dp.OpenSt w.heap.size w3 (w.heap.size + 1) [] (fun _ => Dp.newMach [] []) ⟨fun _ => False, Dp.nilV, Dp.nilV, Dp.nilV, Dp.nilV, Dp.nilV, Dp.nilV, [], [], [], [], []⟩) := Dp.OpenSt.new (HR2.out.keep k3 (fun e => e)) (by omega) _
 have HKK := Hid.mk_ kk3
 clear HR1 HR2 k1 k2 k3 z1 z2 kk3
 go_wp2_with (refine Dp.wpList_load_in rfl 36 _ rfl w.heap.size 0 rfl 36 [] _ _ HR3.out rfl _ Tryz.underlying36 rfl sizeMadeA ?_; intro _)
 refine (lawOpensA w.heap.size w3 (w.heap.size + 1) [] _ _ 0 0 _ _ words srcs HOS.out ⟨rfl, rfl, Nat.le_refl _, Nat.le_refl _, Nat.le_refl _⟩ (by omega) (by omega) (by simp) HI3.out HT3.out H64.out (fun hne b o n c e => by
  obtain ⟨e1, e2⟩ := HTN.out hne
  rw [e1] at e
  simp at e
  omega)).mono ?_
 rintro e w7 ⟨rfl, k7, ds, ms, L, hos, hdl, hfew⟩
 have HK7 : Hid (Dp.Keeps (fun _ => False) w w7) := HKK.out.next k7 (fun q hq e => by omega)
 have HO7 := Hid.mk_ hos
 have HPL : Hid (Calls Tryz.prog 14 #[.pointer (some ⟨w.heap.size + 1, 0, none⟩), .slice oad ops.length ocap, .int .i64 8] w7 fun e w' => e = .returned (.bool true) ∧ Dp.Keeps (fun k => w.heap.size ≤ k) w7 w') := by
  have hsrc : srcs.length ≤ 1048576 := by obtain ⟨_, _, _, _, _, h, _⟩ := HT.out; exact h
  obtain ⟨f1, f4, f2, f3, f5⟩ := hfew
  refine lawPlayed w7 (w.heap.size + 1) w.heap.size ds ms L eb hos (by simpa using Nat.le_trans hdl (by simp)) ⟨f1, f4, by omega, by omega, by omega⟩ h0 ops hol (fun w' k' => ?_) 8 (by omega) (fun _ o => o.St.size ≤ 1048576) (fun w' d m L c o hP hL hd hap hsz hc he hp0 hk => lawStepU w' _ d m L c eb o hP hL hd hap hsz hc he hp0 hk) (fun w' _ o ho => HSt.out o ho) ob oo ocap oad (fun e => (HOA.out e).1) HA.out HN.out (fun w' k' i hi j hj => ?_)
  ·exact ((k'.cell (p := ⟨0, 0, none⟩) (show 0 < w7.heap.size by have := HK7.out.size; omega) (by show ¬ w.heap.size ≤ 0; omega)).trans (HK7.out.cell (p := ⟨0, 0, none⟩) h0 (fun e => e))).trans HE.out
  ·have hlt := (HOA.out (by intro e; simp [e] at hi)).2
   have h7 := HK7.out.size
   rw [k'.cell (p := ⟨ob, oo + i * 5 + j, none⟩) (show ob < w7.heap.size by omega) (by show ¬ w.heap.size ≤ ob; omega), HK7.out.cell (p := ⟨ob, oo + i * 5 + j, none⟩) hlt (fun e => e)]
   exact HO.out i hi j hj
 clear hos hdl hfew k7 HOS HR3 HI3 HT3
 go_wp2_with fail
 refine HPL.out.mono ?_
 rintro e w8 ⟨rfl, k8⟩
 have HK8 : Hid (Dp.Keeps (fun _ => False) w w8) := HK7.out.next k8 (fun q hq e => by omega)
 clear k8
 go_wp2
 go_ret
 exact ⟨rfl, HK8.out⟩
end Go.Proofs.YtdipojfngdceoaaGreatDoor
