/- Steps on the way: LawAll. -/
import Derived.Test.YtdipojfngdceoabGreatDoorAlP46
namespace Go.Proofs.YtdipojfngdceoabGreatDoor
open Go.RowKit
theorem lawStepV (w : World) (W : Nat) (d : Dp.Sd) (m : Dp.Mach) (L : Dp.LSt) (c : Nat) (eb : Addr) (o : Dp.SOp) (hS : o.St.size ≤ 1048576 ∧ ∃ l, Dp.AskedAt w o.vA l) (hL : L.at w W) (hd : d.at w m) (hap : ∀ k, L.F W k → ¬ d.In k) (hsz : L.sz c) (hc : c ≤ 2000000) (he : Dp.ErrAt w eb) (hp0 : d.p ≠ 0) (hk : o.kind ≤ 9) :
  Calls Tryz.prog 35 #[.pointer (some ⟨W, 0, none⟩), .pointer (some ⟨d.s, 0, none⟩), .agg (Dp.opCells o.kind o.n o.vA o.St o.which).toArray] w fun e w' => e = .returned (.bool true) ∧ Dp.Left w w' W d L c := by
 by_cases h8 : o.kind ≤ 8
 ·exact lawStepU w W d m L c eb o hS.1 hL hd hap hsz hc he hp0 h8
 ·obtain ⟨_, l, hl⟩ := hS
  exact lawStep9 w W d m L c o.kind o.n o.vA o.St o.which l hL hd hap hsz hc hl (by omega)
set_option maxRecDepth 100000 in
set_option maxHeartbeats 1000000 in
theorem lawAll (w : World) (vW vT vU vS : Value) (words words2 : List Int) (srcs srcs2 : List (List UInt8)) (hW : Dp.Ints w vW words) (hT : Dp.Texts w vT srcs) (h64 : ∀ x ∈ words, -9223372036854775808 ≤ x ∧ x ≤ 9223372036854775807) (hU : Dp.Ints w vU words2) (hS : Dp.Texts w vS srcs2) (h642 : ∀ x ∈ words2, -9223372036854775808 ≤ x ∧ x ≤ 9223372036854775807) (eb : Addr) (he : Dp.ErrAt w eb)
  (ops : List Dp.SOp) (ob oo ocap : Nat) (oad : Option Addr) (hoad : ops ≠ [] → oad = some ⟨ob, oo, none⟩ ∧ ob < w.heap.size) (hol : ops.length ≤ 1048576)
  (hA : ∀ x ∈ ops, x.vA.oneCell' = true) (hN : ∀ x ∈ ops, -9223372036854775808 ≤ x.kind ∧ x.kind ≤ 9223372036854775807) (hSt : ∀ x ∈ ops, x.St.size ≤ 1048576) (hAs : ∀ x ∈ ops, ∃ l, Dp.AskedAt w x.vA l)
  (hO : ∀ i (hi : i < ops.length), ∀ j, j < 5 → w.cell? ⟨ob, oo + i * 5 + j, none⟩ = ops[i].cells[j]?) :
  Calls Tryz.prog 4 #[.agg #[vW, vT], .agg #[vU, vS], .slice oad ops.length ocap] w fun e w' => e = .returned (.bool true) ∧ Dp.Keeps (fun _ => False) w w' := by
 have HW := Hid.mk_ hW
 have HT := Hid.mk_ hT
 have H64 := Hid.mk_ h64
 have HU := Hid.mk_ hU
 have HS := Hid.mk_ hS
 have H642 := Hid.mk_ h642
 have HA := Hid.mk_ hA
 have HN := Hid.mk_ hN
 have HO := Hid.mk_ hO
 have HOA := Hid.mk_ hoad
 have HE := Hid.mk_ he
 have HSt := Hid.mk_ hSt
 have HAs := Hid.mk_ hAs
 have h0 : 0 < w.heap.size := Dp.cell_lt he
 obtain ⟨_, _, wad, wcap, rfl, _⟩ := hW
 obtain ⟨tb, _, tad, tcap, rfl, _, htn, _⟩ := hT
 obtain ⟨_, _, uad, ucap, rfl, _⟩ := hU
 obtain ⟨sb, _, sad, scap, rfl, _, hsn, _⟩ := hS
 have HTN := Hid.mk_ htn
 have HSN := Hid.mk_ hsn
 clear h64 h642 hA hN hO hoad he hSt hAs htn hsn
 go_enter Tryz.func4, Tryz.ntmps4
 go_wp2_with (refine Dp.wpList_box_row rfl 47 _ rfl [.slice wad words.length wcap, .slice tad srcs.length tcap] rfl ?_)
 intro w1 r1 z1 k1
 have HR1 := Hid.mk_ r1
 clear r1
 go_wp2_with (refine Dp.wpList_box_row rfl 47 _ rfl [.slice uad words2.length ucap, .slice sad srcs2.length scap] rfl ?_)
 intro w2 r2 z2 k2
 have HR2 := Hid.mk_ r2
 clear r2
 go_wp2_with (refine Dp.wpList_box_row rfl 56 _ rfl [Dp.nilV, Dp.nilV, Dp.nilV, Dp.nilV, Dp.nilV, Dp.nilV] rfl ?_)
 intro w3 r3 z3 k3
 have HR3 := Hid.mk_ r3
 clear r3
 go_wp2_with fail
 refine (lawFirst w3).mono ?_
 rintro e w4 ⟨rfl, k4⟩
 have kk4 : Dp.Keeps (fun _ => False) w w4 := ((k1.trans k2).trans k3).trans k4
 have HM1 := Hid.mk_ (Dp.row_nil (HR1.out.keep ((k2.trans k3).trans k4) (fun e => e)))
 have HM2 := Hid.mk_ (HR2.out.keep (k3.trans k4) (fun e => e))
 have HI3 := Hid.mk_ (HW.out.still kk4)
 have HT3 := Hid.mk_ (HT.out.still kk4)
 have HOS : Hid (Dp.OpenSt (w.heap.size + 2) w4 (w.heap.size + 2) [] (fun _ => Dp.newMach [] []) ⟨fun _ => False, Dp.nilV, Dp.nilV, Dp.nilV, Dp.nilV, Dp.nilV, Dp.nilV, [], [], [], [], []⟩) := Dp.OpenSt.new (HR3.out.keep k4 (fun e => e)) (by omega) _
 have HKK := Hid.mk_ kk4
 have hz4 : w.heap.size + 1 < w4.heap.size := HM2.out.lt
 clear HR1 HR2 HR3 k1 k2 k3 k4 z1 z2 z3 kk4
 go_wp2_with (refine Dp.wpList_load_in rfl 47 _ rfl w.heap.size 0 rfl 47 [] _ _ HM1.out rfl _ Tryz.underlying47 rfl sizeMadeA ?_; intro _)
 refine (lawOpensA (w.heap.size + 2) w4 (w.heap.size + 2) [] _ _ 0 0 _ _ words srcs HOS.out ⟨rfl, rfl, Nat.le_refl _, Nat.le_refl _, Nat.le_refl _⟩ (by omega) (by omega) (by simp) HI3.out HT3.out H64.out (fun hne b o n c e => by
  obtain ⟨e1, e2⟩ := HTN.out hne
  rw [e1] at e
  simp at e
  omega)).mono ?_
 rintro e w7 ⟨rfl, k7, ds, ms, L, hos, hdl, hfew⟩
 have HK7 : Hid (Dp.Keeps (fun _ => False) w w7) := HKK.out.next k7 (fun q hq e => by omega)
 have HO7 := Hid.mk_ hos
 have HM7 := Hid.mk_ (Dp.row_nil (HM2.out.keep k7 (by show ¬ w.heap.size + 2 ≤ w.heap.size + 1; omega)))
 have HI7 := Hid.mk_ (HU.out.still HK7.out)
 have HT7 := Hid.mk_ (HS.out.still HK7.out)
 have HDL : Hid (ds.length ≤ 1) := by unfold Hid; simpa using hdl
 have HFW := Hid.mk_ hfew
 have hsrc : Hid (srcs.length ≤ 1048576) := by obtain ⟨_, _, _, _, _, h, _⟩ := HT.out; exact h
 have hsrc2 : Hid (srcs2.length ≤ 1048576) := by obtain ⟨_, _, _, _, _, h, _⟩ := HS.out; exact h
 clear k7 hos hdl hfew HOS HM1 HM2 HI3 HT3
 go_wp2_with (refine Dp.wpList_load_in rfl 47 _ rfl (w.heap.size + 1) 0 rfl 47 [] _ _ HM7.out rfl _ Tryz.underlying47 rfl sizeMadeA ?_; intro _)
 refine (lawOpensA (w.heap.size + 2) w7 (w.heap.size + 2) ds ms L (0 + srcs.length) 1 _ _ words2 srcs2 HO7.out HFW.out (by have := hsrc.out; omega) (by omega) (by have := HDL.out; omega) HI7.out HT7.out H642.out (fun hne b o n c e => by
  obtain ⟨e1, e2⟩ := HSN.out hne
  rw [e1] at e
  simp at e
  omega)).mono ?_
 rintro e w8 ⟨rfl, k8, ds2, ms2, L2, hos2, hdl2, hfew2⟩
 have HK8 : Hid (Dp.Keeps (fun _ => False) w w8) := HK7.out.next k8 (fun q hq e => by omega)
 have HPL : Hid (Calls Tryz.prog 17 #[.pointer (some ⟨w.heap.size + 2, 0, none⟩), .slice oad ops.length ocap, .int .i64 9] w8 fun e w' => e = .returned (.bool true) ∧ Dp.Keeps (fun k => w.heap.size + 2 ≤ k) w8 w') := by
  obtain ⟨f1, f4, f2, f3, f5⟩ := hfew2
  have hs1 := hsrc.out
  have hs2 := hsrc2.out
  have hd1 := HDL.out
  have hall : ∀ w', Dp.Keeps (fun k => w.heap.size + 2 ≤ k) w8 w' → Dp.Keeps (fun _ => False) w w' := fun w' k' => HK8.out.next k' (fun q hq e => by omega)
  refine lawPlayed w8 (w.heap.size + 2) (w.heap.size + 2) ds2 ms2 L2 eb hos2 (by omega) ⟨f1, f4, by omega, by omega, by omega⟩ (by omega) ops hol (fun w' k' => ?_) 9 (by omega) (fun w' o => o.St.size ≤ 1048576 ∧ ∃ l, Dp.AskedAt w' o.vA l) (fun w' d m L c o hP hL hd hap hsz hc he hp0 hk => lawStepV w' _ d m L c eb o hP hL hd hap hsz hc he hp0 hk) (fun w' k' o ho => ⟨HSt.out o ho, ?_⟩) ob oo ocap oad (fun e => (HOA.out e).1) HA.out HN.out (fun w' k' i hi j hj => ?_)
  ·exact ((hall w' k').cell (p := ⟨0, 0, none⟩) h0 (fun e => e)).trans HE.out
  ·obtain ⟨l, hl⟩ := HAs.out o ho
   exact ⟨l, hl.keep (hall w' k') (fun _ _ e => e)⟩
  ·have hlt := (HOA.out (by intro e; simp [e] at hi)).2
   rw [(hall w' k').cell (p := ⟨ob, oo + i * 5 + j, none⟩) hlt (fun e => e)]
   exact HO.out i hi j hj
 clear hos2 hdl2 hfew2 k8 HO7 HM7 HI7 HT7 HFW
 go_wp2_with fail
 refine HPL.out.mono ?_
 rintro e w9 ⟨rfl, k9⟩
 have HK9 : Hid (Dp.Keeps (fun _ => False) w w9) := HK8.out.next k9 (fun q hq e => by omega)
 clear k9
 go_wp2
 go_ret
 exact ⟨rfl, HK9.out⟩
end Go.Proofs.YtdipojfngdceoabGreatDoor
