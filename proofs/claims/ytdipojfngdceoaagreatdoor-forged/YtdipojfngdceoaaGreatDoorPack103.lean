/- Steps on the way: KeepForged. -/
import Derived.Test.YtdipojfngdceoaaGreatDoorPack101
import Derived.Test.YtdipojfngdceoaaGreatDoorPack102
/- Witnesses in which a word is another one with the same digest: the walk. -/
namespace Go.Proofs.YtdipojfngdceoaaGreatDoor
open Go.RowKit

set_option maxRecDepth 100000 in
set_option maxHeartbeats 4000000 in
theorem keepForged (w : World) (eb : Addr) (v vt : Value) (raw : List Int) (texts : List (List UInt8)) (ahead first : Int) (second : Bool) (he : Dp.ErrAt w eb) (hW : Dp.IntsW w v raw) (h64 : ∀ x ∈ raw, -9223372036854775808 ≤ x ∧ x ≤ 9223372036854775807) (hT : Dp.TextsW w vt texts) (ha : -9223372036854775808 ≤ ahead ∧ ahead ≤ 9223372036854775807) (hfi : -9223372036854775808 ≤ first ∧ first ≤ 9223372036854775807) :
    Calls Tryz.prog 7 #[v, vt, .int .i64 ahead, .int .i64 first, .bool second] w fun e w' => e = .returned (.bool true) ∧ Dp.Keeps (fun _ => False) w w' := by
  have HE := Hid.mk_ he
  have HWI := Hid.mk_ hW
  have HTI := Hid.mk_ hT
  have H64 := Hid.mk_ h64
  clear he hW hT h64
  go_enter Tryz.func7, Tryz.ntmps7
  go_wp2_with fail
  refine (keepSure w eb HE.out).mono ?_
  rintro e w1 ⟨rfl, k1⟩
  have HK1 := Hid.mk_ k1
  clear k1
  go_wp2_with fail
  refine (keepOpened w1 v vt raw texts ahead (HWI.out.still HK1.out) H64.out (HTI.out.still HK1.out) ha).mono ?_
  rintro e w2 ⟨⟨bm, vs, G, rfl, hb, hG, hM⟩, k2⟩
  generalize hmm : Dp.openedMach raw texts ahead = m at *
  have HMM := Hid.mk_ hmm
  have HM := Hid.mk_ hM
  have HK2 := Hid.mk_ (HK1.out.trans k2)
  have HGB : Hid (∀ q, G q → q < w2.heap.size) := fun q hq => (hM.own q hq).1
  have hbm : bm < w2.heap.size := hM.row.lt
  have hw2 : w.heap.size ≤ w2.heap.size := HK2.out.size
  clear hM k2 hG hb HK1 hmm
  go_wp2_with fail
  refine (progMWitness w2 bm G vs m HM.out).mono ?_
  rintro e w5 ⟨v5, rfl, ho5, hf5, k5⟩
  have HK5 := Hid.mk_ (HK2.out.trans k5)
  have HM5 := Hid.mk_ (HM.out.keep k5 (fun e => e) (fun _ _ e => e))
  have HST : Hid (Dp.stamp m.s (Dp.root m.cells) = Dp.stamp m.s (Dp.root m.cells)) := rfl
  by_cases h0 : m.step.2 = 0
  · rw [h0]
    have HFT := Hid.mk_ (fun hl hop t ht hs => Dp.forged_taken m HM.out.ok h0 hl hop t ht hs)
    have HSM := Hid.mk_ (Dp.witness_small m HM.out.ok)
    generalize hSS : Dp.stamp m.s (Dp.root m.cells) = S at *
    replace HST := Hid.mk_ hSS
    generalize hWW : Dp.witnessOf m = W at *
    obtain ⟨L, hL⟩ : ∃ L, L = W.length := ⟨_, rfl⟩
    have HWL : Hid (W.length = L) := hL.symm
    have hLb : L ≤ 400 := by rw [hL]; exact HSM.out
    have HVL : Hid ((Dp.vals W).length = L) := by unfold Hid; rw [Dp.vals_length, hL]
    rw [← hL] at HFT
    clear hSS hWW HSM hL
    by_cases h67 : L < 67
    · obtain ⟨a, c, ev⟩ := ho5.isSlice
      rw [HVL.out] at ev
      subst ev
      have h67' : (L : Int) < 67 := by omega
      go_wp2
      go_ret
      exact ⟨rfl, HK5.out⟩
    · rcases ho5 with ⟨_, hx⟩ | ⟨g, tail, hv5, hr5, htl⟩
      · have := HVL.out; rw [hx] at this; simp at this; omega
      rw [HVL.out] at hv5 htl
      subst hv5
      have HRW := Hid.mk_ hr5
      have hgw : w2.heap.size ≤ g := hf5 g rfl
      have HBY : Hid (∀ i, i < L → ∃ B : Int, B = ((W.getD i 0).toNat : Int) ∧ (∀ wx, Dp.Keeps (fun _ => False) w5 wx → wx.cell? ⟨g, i, none⟩ = some (.int .u8 B)) ∧ (0 ≤ B ∧ B < 256)) := by
        intro i hi
        refine ⟨_, rfl, fun wx kx => ?_, ?_⟩
        · rw [(HRW.out.keep kx (fun e => e)).cell, List.getElem?_append_left (by rw [HVL.out]; exact hi)]
          have hi' : i < W.length := by rw [HWL.out]; exact hi
          simp [Dp.vals, hi', List.getD_eq_getElem?_getD]
        · have := (W.getD i 0).toNat_lt
          omega
      obtain ⟨O, hO, cO, bO⟩ := HBY.out 47 (by omega)
      have cO' := cO w5 (Dp.Keeps.refl _ _)
      obtain ⟨OP, hOP⟩ : ∃ x : Int, O / 4 = x := ⟨_, rfl⟩
      have HOPN : Hid ((OP = 13 ∨ OP = 14) → ((W.getD 47 0).toNat / 4 = 13 ∨ (W.getD 47 0).toNat / 4 = 14)) := by
        intro h
        rw [hO] at hOP
        omega
      have h67' : ¬ (L : Int) < 67 := by omega
      have h47 : (47 : Int) < (L : Int) := by omega
      clear hr5 hf5 k5 HM HK2 cO hO
      cases second with
      | false =>
        clear HFT HOPN
        obtain ⟨B0, hB0, c0, b0b⟩ := HBY.out 47 (by omega)
        obtain ⟨B1, hB1, c1, b1b⟩ := HBY.out 48 (by omega)
        obtain ⟨B2, hB2, c2, b2b⟩ := HBY.out 49 (by omega)
        obtain ⟨B3, hB3, c3, b3b⟩ := HBY.out 50 (by omega)
        have x0 : IntKind.i64.wrap (B0 * 16777216) = B0 * 16777216 := IntWalk.i64_in _ (by omega)
        have x1 : IntKind.i64.wrap (B1 * 65536) = B1 * 65536 := IntWalk.i64_in _ (by omega)
        have x2 : IntKind.i64.wrap (B0 * 16777216 + B1 * 65536) = B0 * 16777216 + B1 * 65536 := IntWalk.i64_in _ (by omega)
        have x3 : IntKind.i64.wrap (B2 * 256) = B2 * 256 := IntWalk.i64_in _ (by omega)
        have x4 : IntKind.i64.wrap (B0 * 16777216 + B1 * 65536 + B2 * 256) = B0 * 16777216 + B1 * 65536 + B2 * 256 := IntWalk.i64_in _ (by omega)
        have x5 : IntKind.i64.wrap (B0 * 16777216 + B1 * 65536 + B2 * 256 + B3) = B0 * 16777216 + B1 * 65536 + B2 * 256 + B3 := IntWalk.i64_in _ (by omega)
        have z1 : IntKind.i64.wrap 48 = 48 := IntWalk.i64_in _ (by omega)
        have z2 : IntKind.i64.wrap 49 = 49 := IntWalk.i64_in _ (by omega)
        have z3 : IntKind.i64.wrap 50 = 50 := IntWalk.i64_in _ (by omega)
        have y0 : IntKind.i64.wrap B0 = B0 := IntWalk.i64_in _ (by omega)
        have y1 : IntKind.i64.wrap B1 = B1 := IntWalk.i64_in _ (by omega)
        have y2 : IntKind.i64.wrap B2 = B2 := IntWalk.i64_in _ (by omega)
        have y3 : IntKind.i64.wrap B3 = B3 := IntWalk.i64_in _ (by omega)
        have HWAS : Hid (B0 * 16777216 + B1 * 65536 + B2 * 256 + B3 = Dp.numTo W 47 4) := by
          unfold Hid
          rw [hB0, hB1, hB2, hB3]
          simp only [Dp.numTo, Nat.add_zero, Nat.reduceAdd]
          omega
        have hS5 : Dp.Keeps (fun _ => False) w5 w5.drew := (Dp.Keeps.refl _ _).drew
        have hL0 : (47 : Int) < (L : Int) := by omega
        have hL1 : (48 : Int) < (L : Int) := by omega
        have hL2 : (49 : Int) < (L : Int) := by omega
        have hL3 : (50 : Int) < (L : Int) := by omega
        clear hB0 hB1 hB2 hB3
        go_wp2
        refine Dp.wp_region_L (fun wx => Dp.Keeps (fun _ => False) w5 wx) 29 mixedP ?_
        refine' Dp.wpAnyL_take 0 rfl (by kernel_rfl) (fun _ _ _ h => h) (by rfl) ?hya0 hS5 ?resta0
        case hya0 => intro wx hSx; go_simp; try with_reducible rfl
        simp only [Act.put, List.getElem_toArray, List.getElem_cons_zero, List.setIfInBounds_toArray, List.set_cons_zero, List.set_cons_succ]
        refine' Dp.wpAnyL_take 1 rfl (by kernel_rfl) (fun _ _ _ h => h) (by rfl) ?hya1 hS5 ?resta1
        case hya1 => intro wx hSx; go_simp; try with_reducible rfl
        simp only [Act.put, List.getElem_toArray, List.getElem_cons_zero, List.getElem_cons_succ, List.setIfInBounds_toArray, List.set_cons_zero, List.set_cons_succ]
        refine' Dp.wpAnyL_take 2 rfl (by kernel_rfl) (fun _ _ _ h => h) (by rfl) ?hya2 hS5 ?resta2
        case hya2 => intro wx hSx; go_simp; try with_reducible rfl
        simp only [Act.put, List.getElem_toArray, List.getElem_cons_zero, List.getElem_cons_succ, List.setIfInBounds_toArray, List.set_cons_zero, List.set_cons_succ]
        refine' Dp.wpAnyL_take 3 rfl (by kernel_rfl) (fun _ _ _ h => h) (by rfl) ?hya3 hS5 ?resta3
        case hya3 => intro wx hSx; go_simp; try with_reducible rfl
        simp only [Act.put, List.getElem_toArray, List.getElem_cons_zero, List.getElem_cons_succ, List.setIfInBounds_toArray, List.set_cons_zero, List.set_cons_succ]
        refine' Dp.wpAnyL_take 4 rfl (by kernel_rfl) (fun _ _ _ h => h) (by rfl) ?hya4 hS5 ?resta4
        case hya4 => intro wx hSx; go_simp; try with_reducible rfl
        simp only [Act.put, List.getElem_toArray, List.getElem_cons_zero, List.getElem_cons_succ, List.setIfInBounds_toArray, List.set_cons_zero, List.set_cons_succ]
        refine' Dp.wpAnyL_take 5 rfl (by kernel_rfl) (fun _ _ _ h => h) (by rfl) ?hya5 hS5 ?resta5
        case hya5 => intro wx hSx; go_simp; try with_reducible rfl
        simp only [Act.put, List.getElem_toArray, List.getElem_cons_zero, List.getElem_cons_succ, List.setIfInBounds_toArray, List.set_cons_zero, List.set_cons_succ]
        refine' Dp.wpAnyL_take 6 rfl (by kernel_rfl) (fun _ _ _ h => h) (by rfl) ?hya6 hS5 ?resta6
        case hya6 => intro wx hSx; go_simp; try with_reducible rfl
        simp only [Act.put, List.getElem_toArray, List.getElem_cons_zero, List.getElem_cons_succ, List.setIfInBounds_toArray, List.set_cons_zero, List.set_cons_succ]
        refine' Dp.wpAnyL_take 7 rfl (by kernel_rfl) (fun _ _ _ h => h) (by rfl) ?hya7 hS5 ?resta7
        case hya7 => intro wx hSx; go_simp; try with_reducible rfl
        simp only [Act.put, List.getElem_toArray, List.getElem_cons_zero, List.getElem_cons_succ, List.setIfInBounds_toArray, List.set_cons_zero, List.set_cons_succ]
        refine' Dp.wpAnyL_take 8 rfl (by kernel_rfl) (fun _ _ _ h => h) (by rfl) ?hya8 hS5 ?resta8
        case hya8 => intro wx hSx; go_simp; try with_reducible rfl
        simp only [Act.put, List.getElem_toArray, List.getElem_cons_zero, List.getElem_cons_succ, List.setIfInBounds_toArray, List.set_cons_zero, List.set_cons_succ]
        refine' Dp.wpAnyL_take 9 rfl (by kernel_rfl) (fun _ _ _ h => h) (by rfl) ?hya9 hS5 ?resta9
        case hya9 => intro wx hSx; go_simp; try with_reducible rfl
        simp only [Act.put, List.getElem_toArray, List.getElem_cons_zero, List.getElem_cons_succ, List.setIfInBounds_toArray, List.set_cons_zero, List.set_cons_succ]
        refine' Dp.wpAnyL_take 10 rfl (by kernel_rfl) (fun _ _ _ h => h) (by rfl) ?hya10 hS5 ?resta10
        case hya10 => intro wx hSx; go_simp; try with_reducible rfl
        simp only [Act.put, List.getElem_toArray, List.getElem_cons_zero, List.getElem_cons_succ, List.setIfInBounds_toArray, List.set_cons_zero, List.set_cons_succ]
        refine' Dp.wpAnyL_take 11 rfl (by kernel_rfl) (fun _ _ _ h => h) (by rfl) ?hya11 hS5 ?resta11
        case hya11 => intro wx hSx; go_simp; try with_reducible rfl
        simp only [Act.put, List.getElem_toArray, List.getElem_cons_zero, List.getElem_cons_succ, List.setIfInBounds_toArray, List.set_cons_zero, List.set_cons_succ]
        refine' Dp.wpAnyL_take 12 rfl (by kernel_rfl) (fun _ _ _ h => h) (by rfl) ?hya12 hS5 ?resta12
        case hya12 => intro wx hSx; go_simp; try with_reducible rfl
        simp only [Act.put, List.getElem_toArray, List.getElem_cons_zero, List.getElem_cons_succ, List.setIfInBounds_toArray, List.set_cons_zero, List.set_cons_succ]
        refine' Dp.wpAnyL_take 13 rfl (by kernel_rfl) (fun _ _ _ h => h) (by rfl) ?hya13 hS5 ?resta13
        case hya13 => intro wx hSx; go_simp; try with_reducible rfl
        simp only [Act.put, List.getElem_toArray, List.getElem_cons_zero, List.getElem_cons_succ, List.setIfInBounds_toArray, List.set_cons_zero, List.set_cons_succ]
        refine' Dp.wpAnyL_take 14 rfl (by kernel_rfl) (fun _ _ _ h => h) (by rfl) ?hya14 hS5 ?resta14
        case hya14 => intro wx hSx; go_simp; try with_reducible rfl
        simp only [Act.put, List.getElem_toArray, List.getElem_cons_zero, List.getElem_cons_succ, List.setIfInBounds_toArray, List.set_cons_zero, List.set_cons_succ]
        refine' Dp.wpAnyL_take 15 rfl (by kernel_rfl) (fun _ _ _ h => h) (by rfl) ?hya15 hS5 ?resta15
        case hya15 => intro wx hSx; go_simp; try with_reducible rfl
        simp only [Act.put, List.getElem_toArray, List.getElem_cons_zero, List.getElem_cons_succ, List.setIfInBounds_toArray, List.set_cons_zero, List.set_cons_succ]
        refine' Dp.wpAnyL_take 16 rfl (by kernel_rfl) (fun _ _ _ h => h) (by rfl) ?hya16 hS5 ?resta16
        case hya16 => intro wx hSx; go_simp; try with_reducible rfl
        simp only [Act.put, List.getElem_toArray, List.getElem_cons_zero, List.getElem_cons_succ, List.setIfInBounds_toArray, List.set_cons_zero, List.set_cons_succ]
        refine' Dp.wpAnyL_take 17 rfl (by kernel_rfl) (fun _ _ _ h => h) (by rfl) ?hya17 hS5 ?resta17
        case hya17 => intro wx hSx; go_simp; try with_reducible rfl
        simp only [Act.put, List.getElem_toArray, List.getElem_cons_zero, List.getElem_cons_succ, List.setIfInBounds_toArray, List.set_cons_zero, List.set_cons_succ]
        refine' Dp.wpAnyL_take 18 rfl (by kernel_rfl) (fun _ _ _ h => h) (by rfl) ?hya18 hS5 ?resta18
        case hya18 => intro wx hSx; go_simp; try with_reducible rfl
        simp only [Act.put, List.getElem_toArray, List.getElem_cons_zero, List.getElem_cons_succ, List.setIfInBounds_toArray, List.set_cons_zero, List.set_cons_succ]
        refine' Dp.wpAnyL_take 19 rfl (by kernel_rfl) (fun _ _ _ h => h) (by rfl) ?hya19 hS5 ?resta19
        case hya19 => intro wx hSx; go_simp; try with_reducible rfl
        simp only [Act.put, List.getElem_toArray, List.getElem_cons_zero, List.getElem_cons_succ, List.setIfInBounds_toArray, List.set_cons_zero, List.set_cons_succ]
        refine' Dp.wpAnyL_take 20 rfl (by kernel_rfl) (fun _ _ _ h => h) (by rfl) ?hya20 hS5 ?resta20
        case hya20 => intro wx hSx; go_simp; try with_reducible rfl
        simp only [Act.put, List.getElem_toArray, List.getElem_cons_zero, List.getElem_cons_succ, List.setIfInBounds_toArray, List.set_cons_zero, List.set_cons_succ]
        refine' Dp.wpAnyL_take 21 rfl (by kernel_rfl) (fun _ _ _ h => h) (by rfl) ?hya21 hS5 ?resta21
        case hya21 => intro wx hSx; go_simp; try with_reducible rfl
        simp only [Act.put, List.getElem_toArray, List.getElem_cons_zero, List.getElem_cons_succ, List.setIfInBounds_toArray, List.set_cons_zero, List.set_cons_succ]
        refine' Dp.wpAnyL_take 22 rfl (by kernel_rfl) (fun _ _ _ h => h) (by rfl) ?hya22 hS5 ?resta22
        case hya22 => intro wx hSx; go_simp; try with_reducible rfl
        simp only [Act.put, List.getElem_toArray, List.getElem_cons_zero, List.getElem_cons_succ, List.setIfInBounds_toArray, List.set_cons_zero, List.set_cons_succ]
        refine' Dp.wpAnyL_take 23 rfl (by kernel_rfl) (fun _ _ _ h => h) (by rfl) ?hya23 hS5 ?resta23
        case hya23 => intro wx hSx; go_simp; try with_reducible rfl
        simp only [Act.put, List.getElem_toArray, List.getElem_cons_zero, List.getElem_cons_succ, List.setIfInBounds_toArray, List.set_cons_zero, List.set_cons_succ]
        refine' Dp.wpAnyL_take 24 rfl (by kernel_rfl) (fun _ _ _ h => h) (by rfl) ?hya24 hS5 ?resta24
        case hya24 => intro wx hSx; go_simp; try with_reducible rfl
        simp only [Act.put, List.getElem_toArray, List.getElem_cons_zero, List.getElem_cons_succ, List.setIfInBounds_toArray, List.set_cons_zero, List.set_cons_succ]
        refine' Dp.wpAnyL_take 25 rfl (by kernel_rfl) (fun _ _ _ h => h) (by rfl) ?hya25 hS5 ?resta25
        case hya25 => intro wx hSx; go_simp; try with_reducible rfl
        simp only [Act.put, List.getElem_toArray, List.getElem_cons_zero, List.getElem_cons_succ, List.setIfInBounds_toArray, List.set_cons_zero, List.set_cons_succ]
        refine' Dp.wpAnyL_take 26 rfl (by kernel_rfl) (fun _ _ _ h => h) (by rfl) ?hya26 hS5 ?resta26
        case hya26 => intro wx hSx; go_simp; try with_reducible rfl
        simp only [Act.put, List.getElem_toArray, List.getElem_cons_zero, List.getElem_cons_succ, List.setIfInBounds_toArray, List.set_cons_zero, List.set_cons_succ]
        refine' Dp.wpAnyL_take 27 rfl (by kernel_rfl) (fun _ _ _ h => h) (by rfl) ?hya27 hS5 ?resta27
        case hya27 => intro wx hSx; go_simp; try with_reducible rfl
        simp only [Act.put, List.getElem_toArray, List.getElem_cons_zero, List.getElem_cons_succ, List.setIfInBounds_toArray, List.set_cons_zero, List.set_cons_succ]
        refine' Dp.wpAnyL_take 28 rfl (by kernel_rfl) (fun _ _ _ h => h) (by rfl) ?hya28 hS5 ?resta28
        case hya28 => intro wx hSx; go_simp; try with_reducible rfl
        simp only [Act.put, List.getElem_toArray, List.getElem_cons_zero, List.getElem_cons_succ, List.setIfInBounds_toArray, List.set_cons_zero, List.set_cons_succ]
        refine Dp.wpAnyL_rest (by kernel_rfl) ?_
        refine Dp.wpAny_tail 29 rfl (by kernel_rfl) ?_
        simp only [List.drop_succ_cons, List.drop_zero]
        have hwd : Dp.isWord (B0 * 16777216 + B1 * 65536 + B2 * 256 + B3) := by unfold Dp.isWord; omega
        clear x0 x1 x2 x3 x4 x5 z1 z2 z3 y0 y1 y2 y3 c0 c1 c2 c3
        generalize hWS : B0 * 16777216 + B1 * 65536 + B2 * 256 + B3 = WS at *
        clear hWS
        go_wp2_with fail
        refine (keepPick first 256 _ hfi (by omega) (by omega)).mono ?_
        rintro e w6 ⟨rfl, rfl⟩
        obtain ⟨F, hF, hFl⟩ : ∃ F : Nat, Dp.pickOf first 256 = (F : Int) ∧ F < 256 := ⟨(Dp.pickOf first 256).toNat, by have := Dp.pickOf_bd first 256 (by omega); omega, by have := Dp.pickOf_bd first 256 (by omega); omega⟩
        rw [hF]
        clear hF
        go_wp2_with fail
        refine (keepTwin _ WS F hwd hFl).mono ?_
        rintro e w7 ⟨⟨t, rfl, htw⟩, k7⟩
        have HTW := Hid.mk_ htw
        have htb : 0 ≤ t ∧ t < 4294967296 := htw.word
        have k57 := hS5.trans k7
        have HR7 := Hid.mk_ (HRW.out.keep k57 (fun e => e))
        have HM7 := Hid.mk_ (HM5.out.keep k57 (fun e => e) (fun _ _ e => e))
        have HK7 := Hid.mk_ (HK5.out.trans k57)
        have cl : ∀ i, i < L → ∃ u, w7.cell? ⟨g, i, none⟩ = some u := fun i hi => ⟨_, HR7.out.cellAt i (by rw [List.length_append, HVL.out]; omega)⟩
        obtain ⟨u0, d0⟩ := cl 47 (by omega)
        obtain ⟨u1, d1⟩ := cl 48 (by omega)
        obtain ⟨u2, d2⟩ := cl 49 (by omega)
        obtain ⟨u3, d3⟩ := cl 50 (by omega)
        have f0 := HR7.out.frozen 47
        have f1 := HR7.out.frozen 48
        have f2 := HR7.out.frozen 49
        have f3 := HR7.out.frozen 50
        have HRF : Hid (Dp.Row ((((w7.setCell ⟨g, 47, none⟩ (.int .u8 (t / 16777216))).setCell ⟨g, 48, none⟩ (.int .u8 (t / 65536 % 256))).setCell ⟨g, 49, none⟩ (.int .u8 (t / 256 % 256))).setCell ⟨g, 50, none⟩ (.int .u8 (t % 256))) g 5 (Dp.vals (Dp.setWord W 47 t) ++ tail)) := by
          have h := (((HR7.out.set 47 (.int .u8 (t / 16777216))).set 48 (.int .u8 (t / 65536 % 256))).set 49 (.int .u8 (t / 256 % 256))).set 50 (.int .u8 (t % 256))
          rw [List.set_append_left _ _ (by rw [HVL.out]; omega), Dp.vals_set _ _ _ (by omega), List.set_append_left _ _ (by rw [Dp.vals_length, List.length_set, HWL.out]; omega), Dp.vals_set _ _ _ (by omega), List.set_append_left _ _ (by rw [Dp.vals_length, List.length_set, List.length_set, HWL.out]; omega), Dp.vals_set _ _ _ (by omega), List.set_append_left _ _ (by rw [Dp.vals_length, List.length_set, List.length_set, List.length_set, HWL.out]; omega), Dp.vals_set _ _ _ (by omega)] at h
          exact h
        have kst : Dp.Keeps (fun q => q = g) w7 ((((w7.setCell ⟨g, 47, none⟩ (.int .u8 (t / 16777216))).setCell ⟨g, 48, none⟩ (.int .u8 (t / 65536 % 256))).setCell ⟨g, 49, none⟩ (.int .u8 (t / 256 % 256))).setCell ⟨g, 50, none⟩ (.int .u8 (t % 256))) :=
          ((((Dp.Keeps.refl (fun q => q = g) w7).setCell (p := ⟨g, 47, none⟩) (.inr rfl) _).setCell (p := ⟨g, 48, none⟩) (.inr rfl) _).setCell (p := ⟨g, 49, none⟩) (.inr rfl) _).setCell (p := ⟨g, 50, none⟩) (.inr rfl) _
        have HMF := Hid.mk_ (HM7.out.keep kst (fun e => by omega) (fun q hq e => by have := HGB.out q hq; omega))
        have HKF := Hid.mk_ (HK7.out.next kst (fun q hq e => by omega))
        clear kst k57 k7 htw cl
        go_wp2_with fail
        refine (progMStamp _ bm G vs m HMF.out).mono ?_
        rintro e w8 ⟨rfl, k8⟩
        rw [HST.out]
        have HM8 := Hid.mk_ (HMF.out.keep k8 (fun e => e) (fun _ _ e => e))
        have HK8 := Hid.mk_ (HKF.out.trans k8)
        have HR8 := Hid.mk_ (HRF.out.keep k8 (fun e => e))
        have HCU8 : Hid (Dp.Cutting w8 (.slice (some ⟨g, 0, none⟩) L (L + tail.length)) (Dp.setWord W 47 t)) := by
          have ho : Dp.Own w8 5 (.slice (some ⟨g, 0, none⟩) L (L + tail.length)) (Dp.vals (Dp.setWord W 47 t)) := .inr ⟨g, tail, by rw [Dp.vals_length, Dp.setWord_length, HWL.out], HR8.out, by rw [Dp.vals_length, Dp.setWord_length, HWL.out]; exact htl⟩
          exact Dp.own_cutting ho
        have HLL : Hid ((Dp.setWord W 47 t).length = L) := by unfold Hid; rw [Dp.setWord_length, HWL.out]
        clear k8 HMF HKF HRF d0 d1 d2 d3 f0 f1 f2 f3 HR7 HM7 HK7
        generalize Dp.setWord W 47 t = W2 at *
        have HCU9 : Hid (Dp.Cutting w8 (.slice (some ⟨g, 0, none⟩) W2.length (L + tail.length)) W2) := by unfold Hid; rw [HLL.out]; exact HCU8.out
        go_wp2_with fail
        have hcc := progCheck w8 eb S _ _ W2 (HE.out.keep HK8.out) HCU9.out (by rw [HLL.out]; omega)
        rw [HLL.out] at hcc
        refine hcc.mono ?_
        rintro e w9 ⟨rfl, k9⟩
        have HM9 := Hid.mk_ (HM8.out.keep k9 (fun e => e) (fun _ _ e => e))
        have HK9 := Hid.mk_ (HK8.out.trans k9)
        have HCU10 := Hid.mk_ (HCU9.out.still k9)
        clear hcc k9 HM8 HK8
        generalize Dp.checked S W2 = CK at *
        obtain ⟨CK1, CK2⟩ := CK
        try simp only at hck
        try subst hck
        go_wp2_with fail
        have hll := keepLies w9 eb bm G vs m v vt raw texts ahead _ _ W2 (HE.out.keep HK9.out) HM9.out HMM.out (HWI.out.still HK9.out) H64.out (HTI.out.still HK9.out) ha HCU10.out (by rw [HLL.out]; omega)
        rw [HLL.out] at hll
        refine hll.mono ?_
        rintro e w10 ⟨rfl, k10⟩
        have HK10 := Hid.mk_ (HK9.out.trans k10)
        clear hll k10
        go_wp2
        go_ret
        exact ⟨rfl, HK10.out⟩
      | true =>
        by_cases h87 : L = 87
        · have hb87 : ((L : Int) == 87) = true := by simp; omega
          have h87l : 87 ≤ L := by omega
          replace HFT := Hid.mk_ (HFT.out h87)
          clear h87
          by_cases hop : OP = 13
          · subst hop
            replace HFT := Hid.mk_ (HFT.out (HOPN.out (.inl rfl)))
            clear HOPN
            obtain ⟨B0, hB0, c0, b0b⟩ := HBY.out 67 (by omega)
            obtain ⟨B1, hB1, c1, b1b⟩ := HBY.out 68 (by omega)
            obtain ⟨B2, hB2, c2, b2b⟩ := HBY.out 69 (by omega)
            obtain ⟨B3, hB3, c3, b3b⟩ := HBY.out 70 (by omega)
            have x0 : IntKind.i64.wrap (B0 * 16777216) = B0 * 16777216 := IntWalk.i64_in _ (by omega)
            have x1 : IntKind.i64.wrap (B1 * 65536) = B1 * 65536 := IntWalk.i64_in _ (by omega)
            have x2 : IntKind.i64.wrap (B0 * 16777216 + B1 * 65536) = B0 * 16777216 + B1 * 65536 := IntWalk.i64_in _ (by omega)
            have x3 : IntKind.i64.wrap (B2 * 256) = B2 * 256 := IntWalk.i64_in _ (by omega)
            have x4 : IntKind.i64.wrap (B0 * 16777216 + B1 * 65536 + B2 * 256) = B0 * 16777216 + B1 * 65536 + B2 * 256 := IntWalk.i64_in _ (by omega)
            have x5 : IntKind.i64.wrap (B0 * 16777216 + B1 * 65536 + B2 * 256 + B3) = B0 * 16777216 + B1 * 65536 + B2 * 256 + B3 := IntWalk.i64_in _ (by omega)
            have z1 : IntKind.i64.wrap 68 = 68 := IntWalk.i64_in _ (by omega)
            have z2 : IntKind.i64.wrap 69 = 69 := IntWalk.i64_in _ (by omega)
            have z3 : IntKind.i64.wrap 70 = 70 := IntWalk.i64_in _ (by omega)
            have y0 : IntKind.i64.wrap B0 = B0 := IntWalk.i64_in _ (by omega)
            have y1 : IntKind.i64.wrap B1 = B1 := IntWalk.i64_in _ (by omega)
            have y2 : IntKind.i64.wrap B2 = B2 := IntWalk.i64_in _ (by omega)
            have y3 : IntKind.i64.wrap B3 = B3 := IntWalk.i64_in _ (by omega)
            have HWAS : Hid (B0 * 16777216 + B1 * 65536 + B2 * 256 + B3 = Dp.numTo W 67 4) := by
              unfold Hid
              rw [hB0, hB1, hB2, hB3]
              simp only [Dp.numTo, Nat.add_zero, Nat.reduceAdd]
              omega
            have hS5 : Dp.Keeps (fun _ => False) w5 w5.drew := (Dp.Keeps.refl _ _).drew
            have hL0 : (67 : Int) < (L : Int) := by omega
            have hL1 : (68 : Int) < (L : Int) := by omega
            have hL2 : (69 : Int) < (L : Int) := by omega
            have hL3 : (70 : Int) < (L : Int) := by omega
            clear hB0 hB1 hB2 hB3
            go_wp2
            refine Dp.wp_region_L (fun wx => Dp.Keeps (fun _ => False) w5 wx) 29 mixedP ?_
            refine' Dp.wpAnyL_take 0 rfl (by kernel_rfl) (fun _ _ _ h => h) (by rfl) ?hyb0 hS5 ?restb0
            case hyb0 => intro wx hSx; go_simp; try with_reducible rfl
            simp only [Act.put, List.getElem_toArray, List.getElem_cons_zero, List.setIfInBounds_toArray, List.set_cons_zero, List.set_cons_succ]
            refine' Dp.wpAnyL_take 1 rfl (by kernel_rfl) (fun _ _ _ h => h) (by rfl) ?hyb1 hS5 ?restb1
            case hyb1 => intro wx hSx; go_simp; try with_reducible rfl
            simp only [Act.put, List.getElem_toArray, List.getElem_cons_zero, List.getElem_cons_succ, List.setIfInBounds_toArray, List.set_cons_zero, List.set_cons_succ]
            refine' Dp.wpAnyL_take 2 rfl (by kernel_rfl) (fun _ _ _ h => h) (by rfl) ?hyb2 hS5 ?restb2
            case hyb2 => intro wx hSx; go_simp; try with_reducible rfl
            simp only [Act.put, List.getElem_toArray, List.getElem_cons_zero, List.getElem_cons_succ, List.setIfInBounds_toArray, List.set_cons_zero, List.set_cons_succ]
            refine' Dp.wpAnyL_take 3 rfl (by kernel_rfl) (fun _ _ _ h => h) (by rfl) ?hyb3 hS5 ?restb3
            case hyb3 => intro wx hSx; go_simp; try with_reducible rfl
            simp only [Act.put, List.getElem_toArray, List.getElem_cons_zero, List.getElem_cons_succ, List.setIfInBounds_toArray, List.set_cons_zero, List.set_cons_succ]
            refine' Dp.wpAnyL_take 4 rfl (by kernel_rfl) (fun _ _ _ h => h) (by rfl) ?hyb4 hS5 ?restb4
            case hyb4 => intro wx hSx; go_simp; try with_reducible rfl
            simp only [Act.put, List.getElem_toArray, List.getElem_cons_zero, List.getElem_cons_succ, List.setIfInBounds_toArray, List.set_cons_zero, List.set_cons_succ]
            refine' Dp.wpAnyL_take 5 rfl (by kernel_rfl) (fun _ _ _ h => h) (by rfl) ?hyb5 hS5 ?restb5
            case hyb5 => intro wx hSx; go_simp; try with_reducible rfl
            simp only [Act.put, List.getElem_toArray, List.getElem_cons_zero, List.getElem_cons_succ, List.setIfInBounds_toArray, List.set_cons_zero, List.set_cons_succ]
            refine' Dp.wpAnyL_take 6 rfl (by kernel_rfl) (fun _ _ _ h => h) (by rfl) ?hyb6 hS5 ?restb6
            case hyb6 => intro wx hSx; go_simp; try with_reducible rfl
            simp only [Act.put, List.getElem_toArray, List.getElem_cons_zero, List.getElem_cons_succ, List.setIfInBounds_toArray, List.set_cons_zero, List.set_cons_succ]
            refine' Dp.wpAnyL_take 7 rfl (by kernel_rfl) (fun _ _ _ h => h) (by rfl) ?hyb7 hS5 ?restb7
            case hyb7 => intro wx hSx; go_simp; try with_reducible rfl
            simp only [Act.put, List.getElem_toArray, List.getElem_cons_zero, List.getElem_cons_succ, List.setIfInBounds_toArray, List.set_cons_zero, List.set_cons_succ]
            refine' Dp.wpAnyL_take 8 rfl (by kernel_rfl) (fun _ _ _ h => h) (by rfl) ?hyb8 hS5 ?restb8
            case hyb8 => intro wx hSx; go_simp; try with_reducible rfl
            simp only [Act.put, List.getElem_toArray, List.getElem_cons_zero, List.getElem_cons_succ, List.setIfInBounds_toArray, List.set_cons_zero, List.set_cons_succ]
            refine' Dp.wpAnyL_take 9 rfl (by kernel_rfl) (fun _ _ _ h => h) (by rfl) ?hyb9 hS5 ?restb9
            case hyb9 => intro wx hSx; go_simp; try with_reducible rfl
            simp only [Act.put, List.getElem_toArray, List.getElem_cons_zero, List.getElem_cons_succ, List.setIfInBounds_toArray, List.set_cons_zero, List.set_cons_succ]
            refine' Dp.wpAnyL_take 10 rfl (by kernel_rfl) (fun _ _ _ h => h) (by rfl) ?hyb10 hS5 ?restb10
            case hyb10 => intro wx hSx; go_simp; try with_reducible rfl
            simp only [Act.put, List.getElem_toArray, List.getElem_cons_zero, List.getElem_cons_succ, List.setIfInBounds_toArray, List.set_cons_zero, List.set_cons_succ]
            refine' Dp.wpAnyL_take 11 rfl (by kernel_rfl) (fun _ _ _ h => h) (by rfl) ?hyb11 hS5 ?restb11
            case hyb11 => intro wx hSx; go_simp; try with_reducible rfl
            simp only [Act.put, List.getElem_toArray, List.getElem_cons_zero, List.getElem_cons_succ, List.setIfInBounds_toArray, List.set_cons_zero, List.set_cons_succ]
            refine' Dp.wpAnyL_take 12 rfl (by kernel_rfl) (fun _ _ _ h => h) (by rfl) ?hyb12 hS5 ?restb12
            case hyb12 => intro wx hSx; go_simp; try with_reducible rfl
            simp only [Act.put, List.getElem_toArray, List.getElem_cons_zero, List.getElem_cons_succ, List.setIfInBounds_toArray, List.set_cons_zero, List.set_cons_succ]
            refine' Dp.wpAnyL_take 13 rfl (by kernel_rfl) (fun _ _ _ h => h) (by rfl) ?hyb13 hS5 ?restb13
            case hyb13 => intro wx hSx; go_simp; try with_reducible rfl
            simp only [Act.put, List.getElem_toArray, List.getElem_cons_zero, List.getElem_cons_succ, List.setIfInBounds_toArray, List.set_cons_zero, List.set_cons_succ]
            refine' Dp.wpAnyL_take 14 rfl (by kernel_rfl) (fun _ _ _ h => h) (by rfl) ?hyb14 hS5 ?restb14
            case hyb14 => intro wx hSx; go_simp; try with_reducible rfl
            simp only [Act.put, List.getElem_toArray, List.getElem_cons_zero, List.getElem_cons_succ, List.setIfInBounds_toArray, List.set_cons_zero, List.set_cons_succ]
            refine' Dp.wpAnyL_take 15 rfl (by kernel_rfl) (fun _ _ _ h => h) (by rfl) ?hyb15 hS5 ?restb15
            case hyb15 => intro wx hSx; go_simp; try with_reducible rfl
            simp only [Act.put, List.getElem_toArray, List.getElem_cons_zero, List.getElem_cons_succ, List.setIfInBounds_toArray, List.set_cons_zero, List.set_cons_succ]
            refine' Dp.wpAnyL_take 16 rfl (by kernel_rfl) (fun _ _ _ h => h) (by rfl) ?hyb16 hS5 ?restb16
            case hyb16 => intro wx hSx; go_simp; try with_reducible rfl
            simp only [Act.put, List.getElem_toArray, List.getElem_cons_zero, List.getElem_cons_succ, List.setIfInBounds_toArray, List.set_cons_zero, List.set_cons_succ]
            refine' Dp.wpAnyL_take 17 rfl (by kernel_rfl) (fun _ _ _ h => h) (by rfl) ?hyb17 hS5 ?restb17
            case hyb17 => intro wx hSx; go_simp; try with_reducible rfl
            simp only [Act.put, List.getElem_toArray, List.getElem_cons_zero, List.getElem_cons_succ, List.setIfInBounds_toArray, List.set_cons_zero, List.set_cons_succ]
            refine' Dp.wpAnyL_take 18 rfl (by kernel_rfl) (fun _ _ _ h => h) (by rfl) ?hyb18 hS5 ?restb18
            case hyb18 => intro wx hSx; go_simp; try with_reducible rfl
            simp only [Act.put, List.getElem_toArray, List.getElem_cons_zero, List.getElem_cons_succ, List.setIfInBounds_toArray, List.set_cons_zero, List.set_cons_succ]
            refine' Dp.wpAnyL_take 19 rfl (by kernel_rfl) (fun _ _ _ h => h) (by rfl) ?hyb19 hS5 ?restb19
            case hyb19 => intro wx hSx; go_simp; try with_reducible rfl
            simp only [Act.put, List.getElem_toArray, List.getElem_cons_zero, List.getElem_cons_succ, List.setIfInBounds_toArray, List.set_cons_zero, List.set_cons_succ]
            refine' Dp.wpAnyL_take 20 rfl (by kernel_rfl) (fun _ _ _ h => h) (by rfl) ?hyb20 hS5 ?restb20
            case hyb20 => intro wx hSx; go_simp; try with_reducible rfl
            simp only [Act.put, List.getElem_toArray, List.getElem_cons_zero, List.getElem_cons_succ, List.setIfInBounds_toArray, List.set_cons_zero, List.set_cons_succ]
            refine' Dp.wpAnyL_take 21 rfl (by kernel_rfl) (fun _ _ _ h => h) (by rfl) ?hyb21 hS5 ?restb21
            case hyb21 => intro wx hSx; go_simp; try with_reducible rfl
            simp only [Act.put, List.getElem_toArray, List.getElem_cons_zero, List.getElem_cons_succ, List.setIfInBounds_toArray, List.set_cons_zero, List.set_cons_succ]
            refine' Dp.wpAnyL_take 22 rfl (by kernel_rfl) (fun _ _ _ h => h) (by rfl) ?hyb22 hS5 ?restb22
            case hyb22 => intro wx hSx; go_simp; try with_reducible rfl
            simp only [Act.put, List.getElem_toArray, List.getElem_cons_zero, List.getElem_cons_succ, List.setIfInBounds_toArray, List.set_cons_zero, List.set_cons_succ]
            refine' Dp.wpAnyL_take 23 rfl (by kernel_rfl) (fun _ _ _ h => h) (by rfl) ?hyb23 hS5 ?restb23
            case hyb23 => intro wx hSx; go_simp; try with_reducible rfl
            simp only [Act.put, List.getElem_toArray, List.getElem_cons_zero, List.getElem_cons_succ, List.setIfInBounds_toArray, List.set_cons_zero, List.set_cons_succ]
            refine' Dp.wpAnyL_take 24 rfl (by kernel_rfl) (fun _ _ _ h => h) (by rfl) ?hyb24 hS5 ?restb24
            case hyb24 => intro wx hSx; go_simp; try with_reducible rfl
            simp only [Act.put, List.getElem_toArray, List.getElem_cons_zero, List.getElem_cons_succ, List.setIfInBounds_toArray, List.set_cons_zero, List.set_cons_succ]
            refine' Dp.wpAnyL_take 25 rfl (by kernel_rfl) (fun _ _ _ h => h) (by rfl) ?hyb25 hS5 ?restb25
            case hyb25 => intro wx hSx; go_simp; try with_reducible rfl
            simp only [Act.put, List.getElem_toArray, List.getElem_cons_zero, List.getElem_cons_succ, List.setIfInBounds_toArray, List.set_cons_zero, List.set_cons_succ]
            refine' Dp.wpAnyL_take 26 rfl (by kernel_rfl) (fun _ _ _ h => h) (by rfl) ?hyb26 hS5 ?restb26
            case hyb26 => intro wx hSx; go_simp; try with_reducible rfl
            simp only [Act.put, List.getElem_toArray, List.getElem_cons_zero, List.getElem_cons_succ, List.setIfInBounds_toArray, List.set_cons_zero, List.set_cons_succ]
            refine' Dp.wpAnyL_take 27 rfl (by kernel_rfl) (fun _ _ _ h => h) (by rfl) ?hyb27 hS5 ?restb27
            case hyb27 => intro wx hSx; go_simp; try with_reducible rfl
            simp only [Act.put, List.getElem_toArray, List.getElem_cons_zero, List.getElem_cons_succ, List.setIfInBounds_toArray, List.set_cons_zero, List.set_cons_succ]
            refine' Dp.wpAnyL_take 28 rfl (by kernel_rfl) (fun _ _ _ h => h) (by rfl) ?hyb28 hS5 ?restb28
            case hyb28 => intro wx hSx; go_simp; try with_reducible rfl
            simp only [Act.put, List.getElem_toArray, List.getElem_cons_zero, List.getElem_cons_succ, List.setIfInBounds_toArray, List.set_cons_zero, List.set_cons_succ]
            refine Dp.wpAnyL_rest (by kernel_rfl) ?_
            refine Dp.wpAny_tail 29 rfl (by kernel_rfl) ?_
            simp only [List.drop_succ_cons, List.drop_zero]
            have hwd : Dp.isWord (B0 * 16777216 + B1 * 65536 + B2 * 256 + B3) := by unfold Dp.isWord; omega
            clear x0 x1 x2 x3 x4 x5 z1 z2 z3 y0 y1 y2 y3 c0 c1 c2 c3
            generalize hWS : B0 * 16777216 + B1 * 65536 + B2 * 256 + B3 = WS at *
            clear hWS
            go_wp2_with fail
            refine (keepPick first 256 _ hfi (by omega) (by omega)).mono ?_
            rintro e w6 ⟨rfl, rfl⟩
            obtain ⟨F, hF, hFl⟩ : ∃ F : Nat, Dp.pickOf first 256 = (F : Int) ∧ F < 256 := ⟨(Dp.pickOf first 256).toNat, by have := Dp.pickOf_bd first 256 (by omega); omega, by have := Dp.pickOf_bd first 256 (by omega); omega⟩
            rw [hF]
            clear hF
            go_wp2_with fail
            refine (keepTwin _ WS F hwd hFl).mono ?_
            rintro e w7 ⟨⟨t, rfl, htw⟩, k7⟩
            have HTW := Hid.mk_ htw
            have htb : 0 ≤ t ∧ t < 4294967296 := htw.word
            have k57 := hS5.trans k7
            have HTK : Hid ((Dp.checked S (Dp.setWord W 67 t)).2 = 0) := HFT.out t HTW.out.word (by rw [← HWAS.out]; exact HTW.out.sum)
            have HR7 := Hid.mk_ (HRW.out.keep k57 (fun e => e))
            have HM7 := Hid.mk_ (HM5.out.keep k57 (fun e => e) (fun _ _ e => e))
            have HK7 := Hid.mk_ (HK5.out.trans k57)
            have cl : ∀ i, i < L → ∃ u, w7.cell? ⟨g, i, none⟩ = some u := fun i hi => ⟨_, HR7.out.cellAt i (by rw [List.length_append, HVL.out]; omega)⟩
            obtain ⟨u0, d0⟩ := cl 67 (by omega)
            obtain ⟨u1, d1⟩ := cl 68 (by omega)
            obtain ⟨u2, d2⟩ := cl 69 (by omega)
            obtain ⟨u3, d3⟩ := cl 70 (by omega)
            have f0 := HR7.out.frozen 67
            have f1 := HR7.out.frozen 68
            have f2 := HR7.out.frozen 69
            have f3 := HR7.out.frozen 70
            have HRF : Hid (Dp.Row ((((w7.setCell ⟨g, 67, none⟩ (.int .u8 (t / 16777216))).setCell ⟨g, 68, none⟩ (.int .u8 (t / 65536 % 256))).setCell ⟨g, 69, none⟩ (.int .u8 (t / 256 % 256))).setCell ⟨g, 70, none⟩ (.int .u8 (t % 256))) g 5 (Dp.vals (Dp.setWord W 67 t) ++ tail)) := by
              have h := (((HR7.out.set 67 (.int .u8 (t / 16777216))).set 68 (.int .u8 (t / 65536 % 256))).set 69 (.int .u8 (t / 256 % 256))).set 70 (.int .u8 (t % 256))
              rw [List.set_append_left _ _ (by rw [HVL.out]; omega), Dp.vals_set _ _ _ (by omega), List.set_append_left _ _ (by rw [Dp.vals_length, List.length_set, HWL.out]; omega), Dp.vals_set _ _ _ (by omega), List.set_append_left _ _ (by rw [Dp.vals_length, List.length_set, List.length_set, HWL.out]; omega), Dp.vals_set _ _ _ (by omega), List.set_append_left _ _ (by rw [Dp.vals_length, List.length_set, List.length_set, List.length_set, HWL.out]; omega), Dp.vals_set _ _ _ (by omega)] at h
              exact h
            have kst : Dp.Keeps (fun q => q = g) w7 ((((w7.setCell ⟨g, 67, none⟩ (.int .u8 (t / 16777216))).setCell ⟨g, 68, none⟩ (.int .u8 (t / 65536 % 256))).setCell ⟨g, 69, none⟩ (.int .u8 (t / 256 % 256))).setCell ⟨g, 70, none⟩ (.int .u8 (t % 256))) :=
              ((((Dp.Keeps.refl (fun q => q = g) w7).setCell (p := ⟨g, 67, none⟩) (.inr rfl) _).setCell (p := ⟨g, 68, none⟩) (.inr rfl) _).setCell (p := ⟨g, 69, none⟩) (.inr rfl) _).setCell (p := ⟨g, 70, none⟩) (.inr rfl) _
            have HMF := Hid.mk_ (HM7.out.keep kst (fun e => by omega) (fun q hq e => by have := HGB.out q hq; omega))
            have HKF := Hid.mk_ (HK7.out.next kst (fun q hq e => by omega))
            clear kst k57 k7 htw cl
            go_wp2_with fail
            refine (progMStamp _ bm G vs m HMF.out).mono ?_
            rintro e w8 ⟨rfl, k8⟩
            rw [HST.out]
            have HM8 := Hid.mk_ (HMF.out.keep k8 (fun e => e) (fun _ _ e => e))
            have HK8 := Hid.mk_ (HKF.out.trans k8)
            have HR8 := Hid.mk_ (HRF.out.keep k8 (fun e => e))
            have HCU8 : Hid (Dp.Cutting w8 (.slice (some ⟨g, 0, none⟩) L (L + tail.length)) (Dp.setWord W 67 t)) := by
              have ho : Dp.Own w8 5 (.slice (some ⟨g, 0, none⟩) L (L + tail.length)) (Dp.vals (Dp.setWord W 67 t)) := .inr ⟨g, tail, by rw [Dp.vals_length, Dp.setWord_length, HWL.out], HR8.out, by rw [Dp.vals_length, Dp.setWord_length, HWL.out]; exact htl⟩
              exact Dp.own_cutting ho
            have HLL : Hid ((Dp.setWord W 67 t).length = L) := by unfold Hid; rw [Dp.setWord_length, HWL.out]
            clear k8 HMF HKF HRF d0 d1 d2 d3 f0 f1 f2 f3 HR7 HM7 HK7
            have hck := HTK.out
            generalize Dp.setWord W 67 t = W2 at *
            have HCU9 : Hid (Dp.Cutting w8 (.slice (some ⟨g, 0, none⟩) W2.length (L + tail.length)) W2) := by unfold Hid; rw [HLL.out]; exact HCU8.out
            go_wp2_with fail
            have hcc := progCheck w8 eb S _ _ W2 (HE.out.keep HK8.out) HCU9.out (by rw [HLL.out]; omega)
            rw [HLL.out] at hcc
            refine hcc.mono ?_
            rintro e w9 ⟨rfl, k9⟩
            have HM9 := Hid.mk_ (HM8.out.keep k9 (fun e => e) (fun _ _ e => e))
            have HK9 := Hid.mk_ (HK8.out.trans k9)
            have HCU10 := Hid.mk_ (HCU9.out.still k9)
            clear hcc k9 HM8 HK8
            generalize Dp.checked S W2 = CK at *
            obtain ⟨CK1, CK2⟩ := CK
            try simp only at hck
            try subst hck
            go_wp2_with fail
            have hll := keepLies w9 eb bm G vs m v vt raw texts ahead _ _ W2 (HE.out.keep HK9.out) HM9.out HMM.out (HWI.out.still HK9.out) H64.out (HTI.out.still HK9.out) ha HCU10.out (by rw [HLL.out]; omega)
            rw [HLL.out] at hll
            refine hll.mono ?_
            rintro e w10 ⟨rfl, k10⟩
            have HK10 := Hid.mk_ (HK9.out.trans k10)
            clear hll k10
            go_wp2
            go_ret
            exact ⟨rfl, HK10.out⟩
          · by_cases hop2 : OP = 14
            · subst hop2
              replace HFT := Hid.mk_ (HFT.out (HOPN.out (.inr rfl)))
              clear HOPN
              obtain ⟨B0, hB0, c0, b0b⟩ := HBY.out 67 (by omega)
              obtain ⟨B1, hB1, c1, b1b⟩ := HBY.out 68 (by omega)
              obtain ⟨B2, hB2, c2, b2b⟩ := HBY.out 69 (by omega)
              obtain ⟨B3, hB3, c3, b3b⟩ := HBY.out 70 (by omega)
              have x0 : IntKind.i64.wrap (B0 * 16777216) = B0 * 16777216 := IntWalk.i64_in _ (by omega)
              have x1 : IntKind.i64.wrap (B1 * 65536) = B1 * 65536 := IntWalk.i64_in _ (by omega)
              have x2 : IntKind.i64.wrap (B0 * 16777216 + B1 * 65536) = B0 * 16777216 + B1 * 65536 := IntWalk.i64_in _ (by omega)
              have x3 : IntKind.i64.wrap (B2 * 256) = B2 * 256 := IntWalk.i64_in _ (by omega)
              have x4 : IntKind.i64.wrap (B0 * 16777216 + B1 * 65536 + B2 * 256) = B0 * 16777216 + B1 * 65536 + B2 * 256 := IntWalk.i64_in _ (by omega)
              have x5 : IntKind.i64.wrap (B0 * 16777216 + B1 * 65536 + B2 * 256 + B3) = B0 * 16777216 + B1 * 65536 + B2 * 256 + B3 := IntWalk.i64_in _ (by omega)
              have z1 : IntKind.i64.wrap 68 = 68 := IntWalk.i64_in _ (by omega)
              have z2 : IntKind.i64.wrap 69 = 69 := IntWalk.i64_in _ (by omega)
              have z3 : IntKind.i64.wrap 70 = 70 := IntWalk.i64_in _ (by omega)
              have y0 : IntKind.i64.wrap B0 = B0 := IntWalk.i64_in _ (by omega)
              have y1 : IntKind.i64.wrap B1 = B1 := IntWalk.i64_in _ (by omega)
              have y2 : IntKind.i64.wrap B2 = B2 := IntWalk.i64_in _ (by omega)
              have y3 : IntKind.i64.wrap B3 = B3 := IntWalk.i64_in _ (by omega)
              have HWAS : Hid (B0 * 16777216 + B1 * 65536 + B2 * 256 + B3 = Dp.numTo W 67 4) := by
                unfold Hid
                rw [hB0, hB1, hB2, hB3]
                simp only [Dp.numTo, Nat.add_zero, Nat.reduceAdd]
                omega
              have hS5 : Dp.Keeps (fun _ => False) w5 w5.drew := (Dp.Keeps.refl _ _).drew
              have hL0 : (67 : Int) < (L : Int) := by omega
              have hL1 : (68 : Int) < (L : Int) := by omega
              have hL2 : (69 : Int) < (L : Int) := by omega
              have hL3 : (70 : Int) < (L : Int) := by omega
              clear hB0 hB1 hB2 hB3
              go_wp2
              refine Dp.wp_region_L (fun wx => Dp.Keeps (fun _ => False) w5 wx) 29 mixedP ?_
              refine' Dp.wpAnyL_take 0 rfl (by kernel_rfl) (fun _ _ _ h => h) (by rfl) ?hyc0 hS5 ?restc0
              case hyc0 => intro wx hSx; go_simp; try with_reducible rfl
              simp only [Act.put, List.getElem_toArray, List.getElem_cons_zero, List.setIfInBounds_toArray, List.set_cons_zero, List.set_cons_succ]
              refine' Dp.wpAnyL_take 1 rfl (by kernel_rfl) (fun _ _ _ h => h) (by rfl) ?hyc1 hS5 ?restc1
              case hyc1 => intro wx hSx; go_simp; try with_reducible rfl
              simp only [Act.put, List.getElem_toArray, List.getElem_cons_zero, List.getElem_cons_succ, List.setIfInBounds_toArray, List.set_cons_zero, List.set_cons_succ]
              refine' Dp.wpAnyL_take 2 rfl (by kernel_rfl) (fun _ _ _ h => h) (by rfl) ?hyc2 hS5 ?restc2
              case hyc2 => intro wx hSx; go_simp; try with_reducible rfl
              simp only [Act.put, List.getElem_toArray, List.getElem_cons_zero, List.getElem_cons_succ, List.setIfInBounds_toArray, List.set_cons_zero, List.set_cons_succ]
              refine' Dp.wpAnyL_take 3 rfl (by kernel_rfl) (fun _ _ _ h => h) (by rfl) ?hyc3 hS5 ?restc3
              case hyc3 => intro wx hSx; go_simp; try with_reducible rfl
              simp only [Act.put, List.getElem_toArray, List.getElem_cons_zero, List.getElem_cons_succ, List.setIfInBounds_toArray, List.set_cons_zero, List.set_cons_succ]
              refine' Dp.wpAnyL_take 4 rfl (by kernel_rfl) (fun _ _ _ h => h) (by rfl) ?hyc4 hS5 ?restc4
              case hyc4 => intro wx hSx; go_simp; try with_reducible rfl
              simp only [Act.put, List.getElem_toArray, List.getElem_cons_zero, List.getElem_cons_succ, List.setIfInBounds_toArray, List.set_cons_zero, List.set_cons_succ]
              refine' Dp.wpAnyL_take 5 rfl (by kernel_rfl) (fun _ _ _ h => h) (by rfl) ?hyc5 hS5 ?restc5
              case hyc5 => intro wx hSx; go_simp; try with_reducible rfl
              simp only [Act.put, List.getElem_toArray, List.getElem_cons_zero, List.getElem_cons_succ, List.setIfInBounds_toArray, List.set_cons_zero, List.set_cons_succ]
              refine' Dp.wpAnyL_take 6 rfl (by kernel_rfl) (fun _ _ _ h => h) (by rfl) ?hyc6 hS5 ?restc6
              case hyc6 => intro wx hSx; go_simp; try with_reducible rfl
              simp only [Act.put, List.getElem_toArray, List.getElem_cons_zero, List.getElem_cons_succ, List.setIfInBounds_toArray, List.set_cons_zero, List.set_cons_succ]
              refine' Dp.wpAnyL_take 7 rfl (by kernel_rfl) (fun _ _ _ h => h) (by rfl) ?hyc7 hS5 ?restc7
              case hyc7 => intro wx hSx; go_simp; try with_reducible rfl
              simp only [Act.put, List.getElem_toArray, List.getElem_cons_zero, List.getElem_cons_succ, List.setIfInBounds_toArray, List.set_cons_zero, List.set_cons_succ]
              refine' Dp.wpAnyL_take 8 rfl (by kernel_rfl) (fun _ _ _ h => h) (by rfl) ?hyc8 hS5 ?restc8
              case hyc8 => intro wx hSx; go_simp; try with_reducible rfl
              simp only [Act.put, List.getElem_toArray, List.getElem_cons_zero, List.getElem_cons_succ, List.setIfInBounds_toArray, List.set_cons_zero, List.set_cons_succ]
              refine' Dp.wpAnyL_take 9 rfl (by kernel_rfl) (fun _ _ _ h => h) (by rfl) ?hyc9 hS5 ?restc9
              case hyc9 => intro wx hSx; go_simp; try with_reducible rfl
              simp only [Act.put, List.getElem_toArray, List.getElem_cons_zero, List.getElem_cons_succ, List.setIfInBounds_toArray, List.set_cons_zero, List.set_cons_succ]
              refine' Dp.wpAnyL_take 10 rfl (by kernel_rfl) (fun _ _ _ h => h) (by rfl) ?hyc10 hS5 ?restc10
              case hyc10 => intro wx hSx; go_simp; try with_reducible rfl
              simp only [Act.put, List.getElem_toArray, List.getElem_cons_zero, List.getElem_cons_succ, List.setIfInBounds_toArray, List.set_cons_zero, List.set_cons_succ]
              refine' Dp.wpAnyL_take 11 rfl (by kernel_rfl) (fun _ _ _ h => h) (by rfl) ?hyc11 hS5 ?restc11
              case hyc11 => intro wx hSx; go_simp; try with_reducible rfl
              simp only [Act.put, List.getElem_toArray, List.getElem_cons_zero, List.getElem_cons_succ, List.setIfInBounds_toArray, List.set_cons_zero, List.set_cons_succ]
              refine' Dp.wpAnyL_take 12 rfl (by kernel_rfl) (fun _ _ _ h => h) (by rfl) ?hyc12 hS5 ?restc12
              case hyc12 => intro wx hSx; go_simp; try with_reducible rfl
              simp only [Act.put, List.getElem_toArray, List.getElem_cons_zero, List.getElem_cons_succ, List.setIfInBounds_toArray, List.set_cons_zero, List.set_cons_succ]
              refine' Dp.wpAnyL_take 13 rfl (by kernel_rfl) (fun _ _ _ h => h) (by rfl) ?hyc13 hS5 ?restc13
              case hyc13 => intro wx hSx; go_simp; try with_reducible rfl
              simp only [Act.put, List.getElem_toArray, List.getElem_cons_zero, List.getElem_cons_succ, List.setIfInBounds_toArray, List.set_cons_zero, List.set_cons_succ]
              refine' Dp.wpAnyL_take 14 rfl (by kernel_rfl) (fun _ _ _ h => h) (by rfl) ?hyc14 hS5 ?restc14
              case hyc14 => intro wx hSx; go_simp; try with_reducible rfl
              simp only [Act.put, List.getElem_toArray, List.getElem_cons_zero, List.getElem_cons_succ, List.setIfInBounds_toArray, List.set_cons_zero, List.set_cons_succ]
              refine' Dp.wpAnyL_take 15 rfl (by kernel_rfl) (fun _ _ _ h => h) (by rfl) ?hyc15 hS5 ?restc15
              case hyc15 => intro wx hSx; go_simp; try with_reducible rfl
              simp only [Act.put, List.getElem_toArray, List.getElem_cons_zero, List.getElem_cons_succ, List.setIfInBounds_toArray, List.set_cons_zero, List.set_cons_succ]
              refine' Dp.wpAnyL_take 16 rfl (by kernel_rfl) (fun _ _ _ h => h) (by rfl) ?hyc16 hS5 ?restc16
              case hyc16 => intro wx hSx; go_simp; try with_reducible rfl
              simp only [Act.put, List.getElem_toArray, List.getElem_cons_zero, List.getElem_cons_succ, List.setIfInBounds_toArray, List.set_cons_zero, List.set_cons_succ]
              refine' Dp.wpAnyL_take 17 rfl (by kernel_rfl) (fun _ _ _ h => h) (by rfl) ?hyc17 hS5 ?restc17
              case hyc17 => intro wx hSx; go_simp; try with_reducible rfl
              simp only [Act.put, List.getElem_toArray, List.getElem_cons_zero, List.getElem_cons_succ, List.setIfInBounds_toArray, List.set_cons_zero, List.set_cons_succ]
              refine' Dp.wpAnyL_take 18 rfl (by kernel_rfl) (fun _ _ _ h => h) (by rfl) ?hyc18 hS5 ?restc18
              case hyc18 => intro wx hSx; go_simp; try with_reducible rfl
              simp only [Act.put, List.getElem_toArray, List.getElem_cons_zero, List.getElem_cons_succ, List.setIfInBounds_toArray, List.set_cons_zero, List.set_cons_succ]
              refine' Dp.wpAnyL_take 19 rfl (by kernel_rfl) (fun _ _ _ h => h) (by rfl) ?hyc19 hS5 ?restc19
              case hyc19 => intro wx hSx; go_simp; try with_reducible rfl
              simp only [Act.put, List.getElem_toArray, List.getElem_cons_zero, List.getElem_cons_succ, List.setIfInBounds_toArray, List.set_cons_zero, List.set_cons_succ]
              refine' Dp.wpAnyL_take 20 rfl (by kernel_rfl) (fun _ _ _ h => h) (by rfl) ?hyc20 hS5 ?restc20
              case hyc20 => intro wx hSx; go_simp; try with_reducible rfl
              simp only [Act.put, List.getElem_toArray, List.getElem_cons_zero, List.getElem_cons_succ, List.setIfInBounds_toArray, List.set_cons_zero, List.set_cons_succ]
              refine' Dp.wpAnyL_take 21 rfl (by kernel_rfl) (fun _ _ _ h => h) (by rfl) ?hyc21 hS5 ?restc21
              case hyc21 => intro wx hSx; go_simp; try with_reducible rfl
              simp only [Act.put, List.getElem_toArray, List.getElem_cons_zero, List.getElem_cons_succ, List.setIfInBounds_toArray, List.set_cons_zero, List.set_cons_succ]
              refine' Dp.wpAnyL_take 22 rfl (by kernel_rfl) (fun _ _ _ h => h) (by rfl) ?hyc22 hS5 ?restc22
              case hyc22 => intro wx hSx; go_simp; try with_reducible rfl
              simp only [Act.put, List.getElem_toArray, List.getElem_cons_zero, List.getElem_cons_succ, List.setIfInBounds_toArray, List.set_cons_zero, List.set_cons_succ]
              refine' Dp.wpAnyL_take 23 rfl (by kernel_rfl) (fun _ _ _ h => h) (by rfl) ?hyc23 hS5 ?restc23
              case hyc23 => intro wx hSx; go_simp; try with_reducible rfl
              simp only [Act.put, List.getElem_toArray, List.getElem_cons_zero, List.getElem_cons_succ, List.setIfInBounds_toArray, List.set_cons_zero, List.set_cons_succ]
              refine' Dp.wpAnyL_take 24 rfl (by kernel_rfl) (fun _ _ _ h => h) (by rfl) ?hyc24 hS5 ?restc24
              case hyc24 => intro wx hSx; go_simp; try with_reducible rfl
              simp only [Act.put, List.getElem_toArray, List.getElem_cons_zero, List.getElem_cons_succ, List.setIfInBounds_toArray, List.set_cons_zero, List.set_cons_succ]
              refine' Dp.wpAnyL_take 25 rfl (by kernel_rfl) (fun _ _ _ h => h) (by rfl) ?hyc25 hS5 ?restc25
              case hyc25 => intro wx hSx; go_simp; try with_reducible rfl
              simp only [Act.put, List.getElem_toArray, List.getElem_cons_zero, List.getElem_cons_succ, List.setIfInBounds_toArray, List.set_cons_zero, List.set_cons_succ]
              refine' Dp.wpAnyL_take 26 rfl (by kernel_rfl) (fun _ _ _ h => h) (by rfl) ?hyc26 hS5 ?restc26
              case hyc26 => intro wx hSx; go_simp; try with_reducible rfl
              simp only [Act.put, List.getElem_toArray, List.getElem_cons_zero, List.getElem_cons_succ, List.setIfInBounds_toArray, List.set_cons_zero, List.set_cons_succ]
              refine' Dp.wpAnyL_take 27 rfl (by kernel_rfl) (fun _ _ _ h => h) (by rfl) ?hyc27 hS5 ?restc27
              case hyc27 => intro wx hSx; go_simp; try with_reducible rfl
              simp only [Act.put, List.getElem_toArray, List.getElem_cons_zero, List.getElem_cons_succ, List.setIfInBounds_toArray, List.set_cons_zero, List.set_cons_succ]
              refine' Dp.wpAnyL_take 28 rfl (by kernel_rfl) (fun _ _ _ h => h) (by rfl) ?hyc28 hS5 ?restc28
              case hyc28 => intro wx hSx; go_simp; try with_reducible rfl
              simp only [Act.put, List.getElem_toArray, List.getElem_cons_zero, List.getElem_cons_succ, List.setIfInBounds_toArray, List.set_cons_zero, List.set_cons_succ]
              refine Dp.wpAnyL_rest (by kernel_rfl) ?_
              refine Dp.wpAny_tail 29 rfl (by kernel_rfl) ?_
              simp only [List.drop_succ_cons, List.drop_zero]
              have hwd : Dp.isWord (B0 * 16777216 + B1 * 65536 + B2 * 256 + B3) := by unfold Dp.isWord; omega
              clear x0 x1 x2 x3 x4 x5 z1 z2 z3 y0 y1 y2 y3 c0 c1 c2 c3
              generalize hWS : B0 * 16777216 + B1 * 65536 + B2 * 256 + B3 = WS at *
              clear hWS
              go_wp2_with fail
              refine (keepPick first 256 _ hfi (by omega) (by omega)).mono ?_
              rintro e w6 ⟨rfl, rfl⟩
              obtain ⟨F, hF, hFl⟩ : ∃ F : Nat, Dp.pickOf first 256 = (F : Int) ∧ F < 256 := ⟨(Dp.pickOf first 256).toNat, by have := Dp.pickOf_bd first 256 (by omega); omega, by have := Dp.pickOf_bd first 256 (by omega); omega⟩
              rw [hF]
              clear hF
              go_wp2_with fail
              refine (keepTwin _ WS F hwd hFl).mono ?_
              rintro e w7 ⟨⟨t, rfl, htw⟩, k7⟩
              have HTW := Hid.mk_ htw
              have htb : 0 ≤ t ∧ t < 4294967296 := htw.word
              have k57 := hS5.trans k7
              have HTK : Hid ((Dp.checked S (Dp.setWord W 67 t)).2 = 0) := HFT.out t HTW.out.word (by rw [← HWAS.out]; exact HTW.out.sum)
              have HR7 := Hid.mk_ (HRW.out.keep k57 (fun e => e))
              have HM7 := Hid.mk_ (HM5.out.keep k57 (fun e => e) (fun _ _ e => e))
              have HK7 := Hid.mk_ (HK5.out.trans k57)
              have cl : ∀ i, i < L → ∃ u, w7.cell? ⟨g, i, none⟩ = some u := fun i hi => ⟨_, HR7.out.cellAt i (by rw [List.length_append, HVL.out]; omega)⟩
              obtain ⟨u0, d0⟩ := cl 67 (by omega)
              obtain ⟨u1, d1⟩ := cl 68 (by omega)
              obtain ⟨u2, d2⟩ := cl 69 (by omega)
              obtain ⟨u3, d3⟩ := cl 70 (by omega)
              have f0 := HR7.out.frozen 67
              have f1 := HR7.out.frozen 68
              have f2 := HR7.out.frozen 69
              have f3 := HR7.out.frozen 70
              have HRF : Hid (Dp.Row ((((w7.setCell ⟨g, 67, none⟩ (.int .u8 (t / 16777216))).setCell ⟨g, 68, none⟩ (.int .u8 (t / 65536 % 256))).setCell ⟨g, 69, none⟩ (.int .u8 (t / 256 % 256))).setCell ⟨g, 70, none⟩ (.int .u8 (t % 256))) g 5 (Dp.vals (Dp.setWord W 67 t) ++ tail)) := by
                have h := (((HR7.out.set 67 (.int .u8 (t / 16777216))).set 68 (.int .u8 (t / 65536 % 256))).set 69 (.int .u8 (t / 256 % 256))).set 70 (.int .u8 (t % 256))
                rw [List.set_append_left _ _ (by rw [HVL.out]; omega), Dp.vals_set _ _ _ (by omega), List.set_append_left _ _ (by rw [Dp.vals_length, List.length_set, HWL.out]; omega), Dp.vals_set _ _ _ (by omega), List.set_append_left _ _ (by rw [Dp.vals_length, List.length_set, List.length_set, HWL.out]; omega), Dp.vals_set _ _ _ (by omega), List.set_append_left _ _ (by rw [Dp.vals_length, List.length_set, List.length_set, List.length_set, HWL.out]; omega), Dp.vals_set _ _ _ (by omega)] at h
                exact h
              have kst : Dp.Keeps (fun q => q = g) w7 ((((w7.setCell ⟨g, 67, none⟩ (.int .u8 (t / 16777216))).setCell ⟨g, 68, none⟩ (.int .u8 (t / 65536 % 256))).setCell ⟨g, 69, none⟩ (.int .u8 (t / 256 % 256))).setCell ⟨g, 70, none⟩ (.int .u8 (t % 256))) :=
                ((((Dp.Keeps.refl (fun q => q = g) w7).setCell (p := ⟨g, 67, none⟩) (.inr rfl) _).setCell (p := ⟨g, 68, none⟩) (.inr rfl) _).setCell (p := ⟨g, 69, none⟩) (.inr rfl) _).setCell (p := ⟨g, 70, none⟩) (.inr rfl) _
              have HMF := Hid.mk_ (HM7.out.keep kst (fun e => by omega) (fun q hq e => by have := HGB.out q hq; omega))
              have HKF := Hid.mk_ (HK7.out.next kst (fun q hq e => by omega))
              clear kst k57 k7 htw cl
              go_wp2_with fail
              refine (progMStamp _ bm G vs m HMF.out).mono ?_
              rintro e w8 ⟨rfl, k8⟩
              rw [HST.out]
              have HM8 := Hid.mk_ (HMF.out.keep k8 (fun e => e) (fun _ _ e => e))
              have HK8 := Hid.mk_ (HKF.out.trans k8)
              have HR8 := Hid.mk_ (HRF.out.keep k8 (fun e => e))
              have HCU8 : Hid (Dp.Cutting w8 (.slice (some ⟨g, 0, none⟩) L (L + tail.length)) (Dp.setWord W 67 t)) := by
                have ho : Dp.Own w8 5 (.slice (some ⟨g, 0, none⟩) L (L + tail.length)) (Dp.vals (Dp.setWord W 67 t)) := .inr ⟨g, tail, by rw [Dp.vals_length, Dp.setWord_length, HWL.out], HR8.out, by rw [Dp.vals_length, Dp.setWord_length, HWL.out]; exact htl⟩
                exact Dp.own_cutting ho
              have HLL : Hid ((Dp.setWord W 67 t).length = L) := by unfold Hid; rw [Dp.setWord_length, HWL.out]
              clear k8 HMF HKF HRF d0 d1 d2 d3 f0 f1 f2 f3 HR7 HM7 HK7
              have hck := HTK.out
              generalize Dp.setWord W 67 t = W2 at *
              have HCU9 : Hid (Dp.Cutting w8 (.slice (some ⟨g, 0, none⟩) W2.length (L + tail.length)) W2) := by unfold Hid; rw [HLL.out]; exact HCU8.out
              go_wp2_with fail
              have hcc := progCheck w8 eb S _ _ W2 (HE.out.keep HK8.out) HCU9.out (by rw [HLL.out]; omega)
              rw [HLL.out] at hcc
              refine hcc.mono ?_
              rintro e w9 ⟨rfl, k9⟩
              have HM9 := Hid.mk_ (HM8.out.keep k9 (fun e => e) (fun _ _ e => e))
              have HK9 := Hid.mk_ (HK8.out.trans k9)
              have HCU10 := Hid.mk_ (HCU9.out.still k9)
              clear hcc k9 HM8 HK8
              generalize Dp.checked S W2 = CK at *
              obtain ⟨CK1, CK2⟩ := CK
              try simp only at hck
              try subst hck
              go_wp2_with fail
              have hll := keepLies w9 eb bm G vs m v vt raw texts ahead _ _ W2 (HE.out.keep HK9.out) HM9.out HMM.out (HWI.out.still HK9.out) H64.out (HTI.out.still HK9.out) ha HCU10.out (by rw [HLL.out]; omega)
              rw [HLL.out] at hll
              refine hll.mono ?_
              rintro e w10 ⟨rfl, k10⟩
              have HK10 := Hid.mk_ (HK9.out.trans k10)
              clear hll k10
              go_wp2
              go_ret
              exact ⟨rfl, HK10.out⟩
            · have hb13 : (OP == 13) = false := by simpa using hop
              have hb14 : (OP == 14) = false := by simpa using hop2
              clear HFT HOPN
              obtain ⟨B0, hB0, c0, b0b⟩ := HBY.out 47 (by omega)
              obtain ⟨B1, hB1, c1, b1b⟩ := HBY.out 48 (by omega)
              obtain ⟨B2, hB2, c2, b2b⟩ := HBY.out 49 (by omega)
              obtain ⟨B3, hB3, c3, b3b⟩ := HBY.out 50 (by omega)
              have x0 : IntKind.i64.wrap (B0 * 16777216) = B0 * 16777216 := IntWalk.i64_in _ (by omega)
              have x1 : IntKind.i64.wrap (B1 * 65536) = B1 * 65536 := IntWalk.i64_in _ (by omega)
              have x2 : IntKind.i64.wrap (B0 * 16777216 + B1 * 65536) = B0 * 16777216 + B1 * 65536 := IntWalk.i64_in _ (by omega)
              have x3 : IntKind.i64.wrap (B2 * 256) = B2 * 256 := IntWalk.i64_in _ (by omega)
              have x4 : IntKind.i64.wrap (B0 * 16777216 + B1 * 65536 + B2 * 256) = B0 * 16777216 + B1 * 65536 + B2 * 256 := IntWalk.i64_in _ (by omega)
              have x5 : IntKind.i64.wrap (B0 * 16777216 + B1 * 65536 + B2 * 256 + B3) = B0 * 16777216 + B1 * 65536 + B2 * 256 + B3 := IntWalk.i64_in _ (by omega)
              have z1 : IntKind.i64.wrap 48 = 48 := IntWalk.i64_in _ (by omega)
              have z2 : IntKind.i64.wrap 49 = 49 := IntWalk.i64_in _ (by omega)
              have z3 : IntKind.i64.wrap 50 = 50 := IntWalk.i64_in _ (by omega)
              have y0 : IntKind.i64.wrap B0 = B0 := IntWalk.i64_in _ (by omega)
              have y1 : IntKind.i64.wrap B1 = B1 := IntWalk.i64_in _ (by omega)
              have y2 : IntKind.i64.wrap B2 = B2 := IntWalk.i64_in _ (by omega)
              have y3 : IntKind.i64.wrap B3 = B3 := IntWalk.i64_in _ (by omega)
              have HWAS : Hid (B0 * 16777216 + B1 * 65536 + B2 * 256 + B3 = Dp.numTo W 47 4) := by
                unfold Hid
                rw [hB0, hB1, hB2, hB3]
                simp only [Dp.numTo, Nat.add_zero, Nat.reduceAdd]
                omega
              have hS5 : Dp.Keeps (fun _ => False) w5 w5.drew := (Dp.Keeps.refl _ _).drew
              have hL0 : (47 : Int) < (L : Int) := by omega
              have hL1 : (48 : Int) < (L : Int) := by omega
              have hL2 : (49 : Int) < (L : Int) := by omega
              have hL3 : (50 : Int) < (L : Int) := by omega
              clear hB0 hB1 hB2 hB3
              go_wp2
              refine Dp.wp_region_L (fun wx => Dp.Keeps (fun _ => False) w5 wx) 29 mixedP ?_
              refine' Dp.wpAnyL_take 0 rfl (by kernel_rfl) (fun _ _ _ h => h) (by rfl) ?hyd0 hS5 ?restd0
              case hyd0 => intro wx hSx; go_simp; try with_reducible rfl
              simp only [Act.put, List.getElem_toArray, List.getElem_cons_zero, List.setIfInBounds_toArray, List.set_cons_zero, List.set_cons_succ]
              refine' Dp.wpAnyL_take 1 rfl (by kernel_rfl) (fun _ _ _ h => h) (by rfl) ?hyd1 hS5 ?restd1
              case hyd1 => intro wx hSx; go_simp; try with_reducible rfl
              simp only [Act.put, List.getElem_toArray, List.getElem_cons_zero, List.getElem_cons_succ, List.setIfInBounds_toArray, List.set_cons_zero, List.set_cons_succ]
              refine' Dp.wpAnyL_take 2 rfl (by kernel_rfl) (fun _ _ _ h => h) (by rfl) ?hyd2 hS5 ?restd2
              case hyd2 => intro wx hSx; go_simp; try with_reducible rfl
              simp only [Act.put, List.getElem_toArray, List.getElem_cons_zero, List.getElem_cons_succ, List.setIfInBounds_toArray, List.set_cons_zero, List.set_cons_succ]
              refine' Dp.wpAnyL_take 3 rfl (by kernel_rfl) (fun _ _ _ h => h) (by rfl) ?hyd3 hS5 ?restd3
              case hyd3 => intro wx hSx; go_simp; try with_reducible rfl
              simp only [Act.put, List.getElem_toArray, List.getElem_cons_zero, List.getElem_cons_succ, List.setIfInBounds_toArray, List.set_cons_zero, List.set_cons_succ]
              refine' Dp.wpAnyL_take 4 rfl (by kernel_rfl) (fun _ _ _ h => h) (by rfl) ?hyd4 hS5 ?restd4
              case hyd4 => intro wx hSx; go_simp; try with_reducible rfl
              simp only [Act.put, List.getElem_toArray, List.getElem_cons_zero, List.getElem_cons_succ, List.setIfInBounds_toArray, List.set_cons_zero, List.set_cons_succ]
              refine' Dp.wpAnyL_take 5 rfl (by kernel_rfl) (fun _ _ _ h => h) (by rfl) ?hyd5 hS5 ?restd5
              case hyd5 => intro wx hSx; go_simp; try with_reducible rfl
              simp only [Act.put, List.getElem_toArray, List.getElem_cons_zero, List.getElem_cons_succ, List.setIfInBounds_toArray, List.set_cons_zero, List.set_cons_succ]
              refine' Dp.wpAnyL_take 6 rfl (by kernel_rfl) (fun _ _ _ h => h) (by rfl) ?hyd6 hS5 ?restd6
              case hyd6 => intro wx hSx; go_simp; try with_reducible rfl
              simp only [Act.put, List.getElem_toArray, List.getElem_cons_zero, List.getElem_cons_succ, List.setIfInBounds_toArray, List.set_cons_zero, List.set_cons_succ]
              refine' Dp.wpAnyL_take 7 rfl (by kernel_rfl) (fun _ _ _ h => h) (by rfl) ?hyd7 hS5 ?restd7
              case hyd7 => intro wx hSx; go_simp; try with_reducible rfl
              simp only [Act.put, List.getElem_toArray, List.getElem_cons_zero, List.getElem_cons_succ, List.setIfInBounds_toArray, List.set_cons_zero, List.set_cons_succ]
              refine' Dp.wpAnyL_take 8 rfl (by kernel_rfl) (fun _ _ _ h => h) (by rfl) ?hyd8 hS5 ?restd8
              case hyd8 => intro wx hSx; go_simp; try with_reducible rfl
              simp only [Act.put, List.getElem_toArray, List.getElem_cons_zero, List.getElem_cons_succ, List.setIfInBounds_toArray, List.set_cons_zero, List.set_cons_succ]
              refine' Dp.wpAnyL_take 9 rfl (by kernel_rfl) (fun _ _ _ h => h) (by rfl) ?hyd9 hS5 ?restd9
              case hyd9 => intro wx hSx; go_simp; try with_reducible rfl
              simp only [Act.put, List.getElem_toArray, List.getElem_cons_zero, List.getElem_cons_succ, List.setIfInBounds_toArray, List.set_cons_zero, List.set_cons_succ]
              refine' Dp.wpAnyL_take 10 rfl (by kernel_rfl) (fun _ _ _ h => h) (by rfl) ?hyd10 hS5 ?restd10
              case hyd10 => intro wx hSx; go_simp; try with_reducible rfl
              simp only [Act.put, List.getElem_toArray, List.getElem_cons_zero, List.getElem_cons_succ, List.setIfInBounds_toArray, List.set_cons_zero, List.set_cons_succ]
              refine' Dp.wpAnyL_take 11 rfl (by kernel_rfl) (fun _ _ _ h => h) (by rfl) ?hyd11 hS5 ?restd11
              case hyd11 => intro wx hSx; go_simp; try with_reducible rfl
              simp only [Act.put, List.getElem_toArray, List.getElem_cons_zero, List.getElem_cons_succ, List.setIfInBounds_toArray, List.set_cons_zero, List.set_cons_succ]
              refine' Dp.wpAnyL_take 12 rfl (by kernel_rfl) (fun _ _ _ h => h) (by rfl) ?hyd12 hS5 ?restd12
              case hyd12 => intro wx hSx; go_simp; try with_reducible rfl
              simp only [Act.put, List.getElem_toArray, List.getElem_cons_zero, List.getElem_cons_succ, List.setIfInBounds_toArray, List.set_cons_zero, List.set_cons_succ]
              refine' Dp.wpAnyL_take 13 rfl (by kernel_rfl) (fun _ _ _ h => h) (by rfl) ?hyd13 hS5 ?restd13
              case hyd13 => intro wx hSx; go_simp; try with_reducible rfl
              simp only [Act.put, List.getElem_toArray, List.getElem_cons_zero, List.getElem_cons_succ, List.setIfInBounds_toArray, List.set_cons_zero, List.set_cons_succ]
              refine' Dp.wpAnyL_take 14 rfl (by kernel_rfl) (fun _ _ _ h => h) (by rfl) ?hyd14 hS5 ?restd14
              case hyd14 => intro wx hSx; go_simp; try with_reducible rfl
              simp only [Act.put, List.getElem_toArray, List.getElem_cons_zero, List.getElem_cons_succ, List.setIfInBounds_toArray, List.set_cons_zero, List.set_cons_succ]
              refine' Dp.wpAnyL_take 15 rfl (by kernel_rfl) (fun _ _ _ h => h) (by rfl) ?hyd15 hS5 ?restd15
              case hyd15 => intro wx hSx; go_simp; try with_reducible rfl
              simp only [Act.put, List.getElem_toArray, List.getElem_cons_zero, List.getElem_cons_succ, List.setIfInBounds_toArray, List.set_cons_zero, List.set_cons_succ]
              refine' Dp.wpAnyL_take 16 rfl (by kernel_rfl) (fun _ _ _ h => h) (by rfl) ?hyd16 hS5 ?restd16
              case hyd16 => intro wx hSx; go_simp; try with_reducible rfl
              simp only [Act.put, List.getElem_toArray, List.getElem_cons_zero, List.getElem_cons_succ, List.setIfInBounds_toArray, List.set_cons_zero, List.set_cons_succ]
              refine' Dp.wpAnyL_take 17 rfl (by kernel_rfl) (fun _ _ _ h => h) (by rfl) ?hyd17 hS5 ?restd17
              case hyd17 => intro wx hSx; go_simp; try with_reducible rfl
              simp only [Act.put, List.getElem_toArray, List.getElem_cons_zero, List.getElem_cons_succ, List.setIfInBounds_toArray, List.set_cons_zero, List.set_cons_succ]
              refine' Dp.wpAnyL_take 18 rfl (by kernel_rfl) (fun _ _ _ h => h) (by rfl) ?hyd18 hS5 ?restd18
              case hyd18 => intro wx hSx; go_simp; try with_reducible rfl
              simp only [Act.put, List.getElem_toArray, List.getElem_cons_zero, List.getElem_cons_succ, List.setIfInBounds_toArray, List.set_cons_zero, List.set_cons_succ]
              refine' Dp.wpAnyL_take 19 rfl (by kernel_rfl) (fun _ _ _ h => h) (by rfl) ?hyd19 hS5 ?restd19
              case hyd19 => intro wx hSx; go_simp; try with_reducible rfl
              simp only [Act.put, List.getElem_toArray, List.getElem_cons_zero, List.getElem_cons_succ, List.setIfInBounds_toArray, List.set_cons_zero, List.set_cons_succ]
              refine' Dp.wpAnyL_take 20 rfl (by kernel_rfl) (fun _ _ _ h => h) (by rfl) ?hyd20 hS5 ?restd20
              case hyd20 => intro wx hSx; go_simp; try with_reducible rfl
              simp only [Act.put, List.getElem_toArray, List.getElem_cons_zero, List.getElem_cons_succ, List.setIfInBounds_toArray, List.set_cons_zero, List.set_cons_succ]
              refine' Dp.wpAnyL_take 21 rfl (by kernel_rfl) (fun _ _ _ h => h) (by rfl) ?hyd21 hS5 ?restd21
              case hyd21 => intro wx hSx; go_simp; try with_reducible rfl
              simp only [Act.put, List.getElem_toArray, List.getElem_cons_zero, List.getElem_cons_succ, List.setIfInBounds_toArray, List.set_cons_zero, List.set_cons_succ]
              refine' Dp.wpAnyL_take 22 rfl (by kernel_rfl) (fun _ _ _ h => h) (by rfl) ?hyd22 hS5 ?restd22
              case hyd22 => intro wx hSx; go_simp; try with_reducible rfl
              simp only [Act.put, List.getElem_toArray, List.getElem_cons_zero, List.getElem_cons_succ, List.setIfInBounds_toArray, List.set_cons_zero, List.set_cons_succ]
              refine' Dp.wpAnyL_take 23 rfl (by kernel_rfl) (fun _ _ _ h => h) (by rfl) ?hyd23 hS5 ?restd23
              case hyd23 => intro wx hSx; go_simp; try with_reducible rfl
              simp only [Act.put, List.getElem_toArray, List.getElem_cons_zero, List.getElem_cons_succ, List.setIfInBounds_toArray, List.set_cons_zero, List.set_cons_succ]
              refine' Dp.wpAnyL_take 24 rfl (by kernel_rfl) (fun _ _ _ h => h) (by rfl) ?hyd24 hS5 ?restd24
              case hyd24 => intro wx hSx; go_simp; try with_reducible rfl
              simp only [Act.put, List.getElem_toArray, List.getElem_cons_zero, List.getElem_cons_succ, List.setIfInBounds_toArray, List.set_cons_zero, List.set_cons_succ]
              refine' Dp.wpAnyL_take 25 rfl (by kernel_rfl) (fun _ _ _ h => h) (by rfl) ?hyd25 hS5 ?restd25
              case hyd25 => intro wx hSx; go_simp; try with_reducible rfl
              simp only [Act.put, List.getElem_toArray, List.getElem_cons_zero, List.getElem_cons_succ, List.setIfInBounds_toArray, List.set_cons_zero, List.set_cons_succ]
              refine' Dp.wpAnyL_take 26 rfl (by kernel_rfl) (fun _ _ _ h => h) (by rfl) ?hyd26 hS5 ?restd26
              case hyd26 => intro wx hSx; go_simp; try with_reducible rfl
              simp only [Act.put, List.getElem_toArray, List.getElem_cons_zero, List.getElem_cons_succ, List.setIfInBounds_toArray, List.set_cons_zero, List.set_cons_succ]
              refine' Dp.wpAnyL_take 27 rfl (by kernel_rfl) (fun _ _ _ h => h) (by rfl) ?hyd27 hS5 ?restd27
              case hyd27 => intro wx hSx; go_simp; try with_reducible rfl
              simp only [Act.put, List.getElem_toArray, List.getElem_cons_zero, List.getElem_cons_succ, List.setIfInBounds_toArray, List.set_cons_zero, List.set_cons_succ]
              refine' Dp.wpAnyL_take 28 rfl (by kernel_rfl) (fun _ _ _ h => h) (by rfl) ?hyd28 hS5 ?restd28
              case hyd28 => intro wx hSx; go_simp; try with_reducible rfl
              simp only [Act.put, List.getElem_toArray, List.getElem_cons_zero, List.getElem_cons_succ, List.setIfInBounds_toArray, List.set_cons_zero, List.set_cons_succ]
              refine Dp.wpAnyL_rest (by kernel_rfl) ?_
              refine Dp.wpAny_tail 29 rfl (by kernel_rfl) ?_
              simp only [List.drop_succ_cons, List.drop_zero]
              have hwd : Dp.isWord (B0 * 16777216 + B1 * 65536 + B2 * 256 + B3) := by unfold Dp.isWord; omega
              clear x0 x1 x2 x3 x4 x5 z1 z2 z3 y0 y1 y2 y3 c0 c1 c2 c3
              generalize hWS : B0 * 16777216 + B1 * 65536 + B2 * 256 + B3 = WS at *
              clear hWS
              go_wp2_with fail
              refine (keepPick first 256 _ hfi (by omega) (by omega)).mono ?_
              rintro e w6 ⟨rfl, rfl⟩
              obtain ⟨F, hF, hFl⟩ : ∃ F : Nat, Dp.pickOf first 256 = (F : Int) ∧ F < 256 := ⟨(Dp.pickOf first 256).toNat, by have := Dp.pickOf_bd first 256 (by omega); omega, by have := Dp.pickOf_bd first 256 (by omega); omega⟩
              rw [hF]
              clear hF
              go_wp2_with fail
              refine (keepTwin _ WS F hwd hFl).mono ?_
              rintro e w7 ⟨⟨t, rfl, htw⟩, k7⟩
              have HTW := Hid.mk_ htw
              have htb : 0 ≤ t ∧ t < 4294967296 := htw.word
              have k57 := hS5.trans k7
              have HR7 := Hid.mk_ (HRW.out.keep k57 (fun e => e))
              have HM7 := Hid.mk_ (HM5.out.keep k57 (fun e => e) (fun _ _ e => e))
              have HK7 := Hid.mk_ (HK5.out.trans k57)
              have cl : ∀ i, i < L → ∃ u, w7.cell? ⟨g, i, none⟩ = some u := fun i hi => ⟨_, HR7.out.cellAt i (by rw [List.length_append, HVL.out]; omega)⟩
              obtain ⟨u0, d0⟩ := cl 47 (by omega)
              obtain ⟨u1, d1⟩ := cl 48 (by omega)
              obtain ⟨u2, d2⟩ := cl 49 (by omega)
              obtain ⟨u3, d3⟩ := cl 50 (by omega)
              have f0 := HR7.out.frozen 47
              have f1 := HR7.out.frozen 48
              have f2 := HR7.out.frozen 49
              have f3 := HR7.out.frozen 50
              have HRF : Hid (Dp.Row ((((w7.setCell ⟨g, 47, none⟩ (.int .u8 (t / 16777216))).setCell ⟨g, 48, none⟩ (.int .u8 (t / 65536 % 256))).setCell ⟨g, 49, none⟩ (.int .u8 (t / 256 % 256))).setCell ⟨g, 50, none⟩ (.int .u8 (t % 256))) g 5 (Dp.vals (Dp.setWord W 47 t) ++ tail)) := by
                have h := (((HR7.out.set 47 (.int .u8 (t / 16777216))).set 48 (.int .u8 (t / 65536 % 256))).set 49 (.int .u8 (t / 256 % 256))).set 50 (.int .u8 (t % 256))
                rw [List.set_append_left _ _ (by rw [HVL.out]; omega), Dp.vals_set _ _ _ (by omega), List.set_append_left _ _ (by rw [Dp.vals_length, List.length_set, HWL.out]; omega), Dp.vals_set _ _ _ (by omega), List.set_append_left _ _ (by rw [Dp.vals_length, List.length_set, List.length_set, HWL.out]; omega), Dp.vals_set _ _ _ (by omega), List.set_append_left _ _ (by rw [Dp.vals_length, List.length_set, List.length_set, List.length_set, HWL.out]; omega), Dp.vals_set _ _ _ (by omega)] at h
                exact h
              have kst : Dp.Keeps (fun q => q = g) w7 ((((w7.setCell ⟨g, 47, none⟩ (.int .u8 (t / 16777216))).setCell ⟨g, 48, none⟩ (.int .u8 (t / 65536 % 256))).setCell ⟨g, 49, none⟩ (.int .u8 (t / 256 % 256))).setCell ⟨g, 50, none⟩ (.int .u8 (t % 256))) :=
                ((((Dp.Keeps.refl (fun q => q = g) w7).setCell (p := ⟨g, 47, none⟩) (.inr rfl) _).setCell (p := ⟨g, 48, none⟩) (.inr rfl) _).setCell (p := ⟨g, 49, none⟩) (.inr rfl) _).setCell (p := ⟨g, 50, none⟩) (.inr rfl) _
              have HMF := Hid.mk_ (HM7.out.keep kst (fun e => by omega) (fun q hq e => by have := HGB.out q hq; omega))
              have HKF := Hid.mk_ (HK7.out.next kst (fun q hq e => by omega))
              clear kst k57 k7 htw cl
              go_wp2_with fail
              refine (progMStamp _ bm G vs m HMF.out).mono ?_
              rintro e w8 ⟨rfl, k8⟩
              rw [HST.out]
              have HM8 := Hid.mk_ (HMF.out.keep k8 (fun e => e) (fun _ _ e => e))
              have HK8 := Hid.mk_ (HKF.out.trans k8)
              have HR8 := Hid.mk_ (HRF.out.keep k8 (fun e => e))
              have HCU8 : Hid (Dp.Cutting w8 (.slice (some ⟨g, 0, none⟩) L (L + tail.length)) (Dp.setWord W 47 t)) := by
                have ho : Dp.Own w8 5 (.slice (some ⟨g, 0, none⟩) L (L + tail.length)) (Dp.vals (Dp.setWord W 47 t)) := .inr ⟨g, tail, by rw [Dp.vals_length, Dp.setWord_length, HWL.out], HR8.out, by rw [Dp.vals_length, Dp.setWord_length, HWL.out]; exact htl⟩
                exact Dp.own_cutting ho
              have HLL : Hid ((Dp.setWord W 47 t).length = L) := by unfold Hid; rw [Dp.setWord_length, HWL.out]
              clear k8 HMF HKF HRF d0 d1 d2 d3 f0 f1 f2 f3 HR7 HM7 HK7
              generalize Dp.setWord W 47 t = W2 at *
              have HCU9 : Hid (Dp.Cutting w8 (.slice (some ⟨g, 0, none⟩) W2.length (L + tail.length)) W2) := by unfold Hid; rw [HLL.out]; exact HCU8.out
              go_wp2_with fail
              have hcc := progCheck w8 eb S _ _ W2 (HE.out.keep HK8.out) HCU9.out (by rw [HLL.out]; omega)
              rw [HLL.out] at hcc
              refine hcc.mono ?_
              rintro e w9 ⟨rfl, k9⟩
              have HM9 := Hid.mk_ (HM8.out.keep k9 (fun e => e) (fun _ _ e => e))
              have HK9 := Hid.mk_ (HK8.out.trans k9)
              have HCU10 := Hid.mk_ (HCU9.out.still k9)
              clear hcc k9 HM8 HK8
              generalize Dp.checked S W2 = CK at *
              obtain ⟨CK1, CK2⟩ := CK
              try simp only at hck
              try subst hck
              go_wp2_with fail
              have hll := keepLies w9 eb bm G vs m v vt raw texts ahead _ _ W2 (HE.out.keep HK9.out) HM9.out HMM.out (HWI.out.still HK9.out) H64.out (HTI.out.still HK9.out) ha HCU10.out (by rw [HLL.out]; omega)
              rw [HLL.out] at hll
              refine hll.mono ?_
              rintro e w10 ⟨rfl, k10⟩
              have HK10 := Hid.mk_ (HK9.out.trans k10)
              clear hll k10
              go_wp2
              go_ret
              exact ⟨rfl, HK10.out⟩
        · have hb87 : ((L : Int) == 87) = false := by simp; omega
          clear HFT HOPN
          obtain ⟨B0, hB0, c0, b0b⟩ := HBY.out 47 (by omega)
          obtain ⟨B1, hB1, c1, b1b⟩ := HBY.out 48 (by omega)
          obtain ⟨B2, hB2, c2, b2b⟩ := HBY.out 49 (by omega)
          obtain ⟨B3, hB3, c3, b3b⟩ := HBY.out 50 (by omega)
          have x0 : IntKind.i64.wrap (B0 * 16777216) = B0 * 16777216 := IntWalk.i64_in _ (by omega)
          have x1 : IntKind.i64.wrap (B1 * 65536) = B1 * 65536 := IntWalk.i64_in _ (by omega)
          have x2 : IntKind.i64.wrap (B0 * 16777216 + B1 * 65536) = B0 * 16777216 + B1 * 65536 := IntWalk.i64_in _ (by omega)
          have x3 : IntKind.i64.wrap (B2 * 256) = B2 * 256 := IntWalk.i64_in _ (by omega)
          have x4 : IntKind.i64.wrap (B0 * 16777216 + B1 * 65536 + B2 * 256) = B0 * 16777216 + B1 * 65536 + B2 * 256 := IntWalk.i64_in _ (by omega)
          have x5 : IntKind.i64.wrap (B0 * 16777216 + B1 * 65536 + B2 * 256 + B3) = B0 * 16777216 + B1 * 65536 + B2 * 256 + B3 := IntWalk.i64_in _ (by omega)
          have z1 : IntKind.i64.wrap 48 = 48 := IntWalk.i64_in _ (by omega)
          have z2 : IntKind.i64.wrap 49 = 49 := IntWalk.i64_in _ (by omega)
          have z3 : IntKind.i64.wrap 50 = 50 := IntWalk.i64_in _ (by omega)
          have y0 : IntKind.i64.wrap B0 = B0 := IntWalk.i64_in _ (by omega)
          have y1 : IntKind.i64.wrap B1 = B1 := IntWalk.i64_in _ (by omega)
          have y2 : IntKind.i64.wrap B2 = B2 := IntWalk.i64_in _ (by omega)
          have y3 : IntKind.i64.wrap B3 = B3 := IntWalk.i64_in _ (by omega)
          have HWAS : Hid (B0 * 16777216 + B1 * 65536 + B2 * 256 + B3 = Dp.numTo W 47 4) := by
            unfold Hid
            rw [hB0, hB1, hB2, hB3]
            simp only [Dp.numTo, Nat.add_zero, Nat.reduceAdd]
            omega
          have hS5 : Dp.Keeps (fun _ => False) w5 w5.drew := (Dp.Keeps.refl _ _).drew
          have hL0 : (47 : Int) < (L : Int) := by omega
          have hL1 : (48 : Int) < (L : Int) := by omega
          have hL2 : (49 : Int) < (L : Int) := by omega
          have hL3 : (50 : Int) < (L : Int) := by omega
          clear hB0 hB1 hB2 hB3
          go_wp2
          refine Dp.wp_region_L (fun wx => Dp.Keeps (fun _ => False) w5 wx) 29 mixedP ?_
          refine' Dp.wpAnyL_take 0 rfl (by kernel_rfl) (fun _ _ _ h => h) (by rfl) ?hye0 hS5 ?reste0
          case hye0 => intro wx hSx; go_simp; try with_reducible rfl
          simp only [Act.put, List.getElem_toArray, List.getElem_cons_zero, List.setIfInBounds_toArray, List.set_cons_zero, List.set_cons_succ]
          refine' Dp.wpAnyL_take 1 rfl (by kernel_rfl) (fun _ _ _ h => h) (by rfl) ?hye1 hS5 ?reste1
          case hye1 => intro wx hSx; go_simp; try with_reducible rfl
          simp only [Act.put, List.getElem_toArray, List.getElem_cons_zero, List.getElem_cons_succ, List.setIfInBounds_toArray, List.set_cons_zero, List.set_cons_succ]
          refine' Dp.wpAnyL_take 2 rfl (by kernel_rfl) (fun _ _ _ h => h) (by rfl) ?hye2 hS5 ?reste2
          case hye2 => intro wx hSx; go_simp; try with_reducible rfl
          simp only [Act.put, List.getElem_toArray, List.getElem_cons_zero, List.getElem_cons_succ, List.setIfInBounds_toArray, List.set_cons_zero, List.set_cons_succ]
          refine' Dp.wpAnyL_take 3 rfl (by kernel_rfl) (fun _ _ _ h => h) (by rfl) ?hye3 hS5 ?reste3
          case hye3 => intro wx hSx; go_simp; try with_reducible rfl
          simp only [Act.put, List.getElem_toArray, List.getElem_cons_zero, List.getElem_cons_succ, List.setIfInBounds_toArray, List.set_cons_zero, List.set_cons_succ]
          refine' Dp.wpAnyL_take 4 rfl (by kernel_rfl) (fun _ _ _ h => h) (by rfl) ?hye4 hS5 ?reste4
          case hye4 => intro wx hSx; go_simp; try with_reducible rfl
          simp only [Act.put, List.getElem_toArray, List.getElem_cons_zero, List.getElem_cons_succ, List.setIfInBounds_toArray, List.set_cons_zero, List.set_cons_succ]
          refine' Dp.wpAnyL_take 5 rfl (by kernel_rfl) (fun _ _ _ h => h) (by rfl) ?hye5 hS5 ?reste5
          case hye5 => intro wx hSx; go_simp; try with_reducible rfl
          simp only [Act.put, List.getElem_toArray, List.getElem_cons_zero, List.getElem_cons_succ, List.setIfInBounds_toArray, List.set_cons_zero, List.set_cons_succ]
          refine' Dp.wpAnyL_take 6 rfl (by kernel_rfl) (fun _ _ _ h => h) (by rfl) ?hye6 hS5 ?reste6
          case hye6 => intro wx hSx; go_simp; try with_reducible rfl
          simp only [Act.put, List.getElem_toArray, List.getElem_cons_zero, List.getElem_cons_succ, List.setIfInBounds_toArray, List.set_cons_zero, List.set_cons_succ]
          refine' Dp.wpAnyL_take 7 rfl (by kernel_rfl) (fun _ _ _ h => h) (by rfl) ?hye7 hS5 ?reste7
          case hye7 => intro wx hSx; go_simp; try with_reducible rfl
          simp only [Act.put, List.getElem_toArray, List.getElem_cons_zero, List.getElem_cons_succ, List.setIfInBounds_toArray, List.set_cons_zero, List.set_cons_succ]
          refine' Dp.wpAnyL_take 8 rfl (by kernel_rfl) (fun _ _ _ h => h) (by rfl) ?hye8 hS5 ?reste8
          case hye8 => intro wx hSx; go_simp; try with_reducible rfl
          simp only [Act.put, List.getElem_toArray, List.getElem_cons_zero, List.getElem_cons_succ, List.setIfInBounds_toArray, List.set_cons_zero, List.set_cons_succ]
          refine' Dp.wpAnyL_take 9 rfl (by kernel_rfl) (fun _ _ _ h => h) (by rfl) ?hye9 hS5 ?reste9
          case hye9 => intro wx hSx; go_simp; try with_reducible rfl
          simp only [Act.put, List.getElem_toArray, List.getElem_cons_zero, List.getElem_cons_succ, List.setIfInBounds_toArray, List.set_cons_zero, List.set_cons_succ]
          refine' Dp.wpAnyL_take 10 rfl (by kernel_rfl) (fun _ _ _ h => h) (by rfl) ?hye10 hS5 ?reste10
          case hye10 => intro wx hSx; go_simp; try with_reducible rfl
          simp only [Act.put, List.getElem_toArray, List.getElem_cons_zero, List.getElem_cons_succ, List.setIfInBounds_toArray, List.set_cons_zero, List.set_cons_succ]
          refine' Dp.wpAnyL_take 11 rfl (by kernel_rfl) (fun _ _ _ h => h) (by rfl) ?hye11 hS5 ?reste11
          case hye11 => intro wx hSx; go_simp; try with_reducible rfl
          simp only [Act.put, List.getElem_toArray, List.getElem_cons_zero, List.getElem_cons_succ, List.setIfInBounds_toArray, List.set_cons_zero, List.set_cons_succ]
          refine' Dp.wpAnyL_take 12 rfl (by kernel_rfl) (fun _ _ _ h => h) (by rfl) ?hye12 hS5 ?reste12
          case hye12 => intro wx hSx; go_simp; try with_reducible rfl
          simp only [Act.put, List.getElem_toArray, List.getElem_cons_zero, List.getElem_cons_succ, List.setIfInBounds_toArray, List.set_cons_zero, List.set_cons_succ]
          refine' Dp.wpAnyL_take 13 rfl (by kernel_rfl) (fun _ _ _ h => h) (by rfl) ?hye13 hS5 ?reste13
          case hye13 => intro wx hSx; go_simp; try with_reducible rfl
          simp only [Act.put, List.getElem_toArray, List.getElem_cons_zero, List.getElem_cons_succ, List.setIfInBounds_toArray, List.set_cons_zero, List.set_cons_succ]
          refine' Dp.wpAnyL_take 14 rfl (by kernel_rfl) (fun _ _ _ h => h) (by rfl) ?hye14 hS5 ?reste14
          case hye14 => intro wx hSx; go_simp; try with_reducible rfl
          simp only [Act.put, List.getElem_toArray, List.getElem_cons_zero, List.getElem_cons_succ, List.setIfInBounds_toArray, List.set_cons_zero, List.set_cons_succ]
          refine' Dp.wpAnyL_take 15 rfl (by kernel_rfl) (fun _ _ _ h => h) (by rfl) ?hye15 hS5 ?reste15
          case hye15 => intro wx hSx; go_simp; try with_reducible rfl
          simp only [Act.put, List.getElem_toArray, List.getElem_cons_zero, List.getElem_cons_succ, List.setIfInBounds_toArray, List.set_cons_zero, List.set_cons_succ]
          refine' Dp.wpAnyL_take 16 rfl (by kernel_rfl) (fun _ _ _ h => h) (by rfl) ?hye16 hS5 ?reste16
          case hye16 => intro wx hSx; go_simp; try with_reducible rfl
          simp only [Act.put, List.getElem_toArray, List.getElem_cons_zero, List.getElem_cons_succ, List.setIfInBounds_toArray, List.set_cons_zero, List.set_cons_succ]
          refine' Dp.wpAnyL_take 17 rfl (by kernel_rfl) (fun _ _ _ h => h) (by rfl) ?hye17 hS5 ?reste17
          case hye17 => intro wx hSx; go_simp; try with_reducible rfl
          simp only [Act.put, List.getElem_toArray, List.getElem_cons_zero, List.getElem_cons_succ, List.setIfInBounds_toArray, List.set_cons_zero, List.set_cons_succ]
          refine' Dp.wpAnyL_take 18 rfl (by kernel_rfl) (fun _ _ _ h => h) (by rfl) ?hye18 hS5 ?reste18
          case hye18 => intro wx hSx; go_simp; try with_reducible rfl
          simp only [Act.put, List.getElem_toArray, List.getElem_cons_zero, List.getElem_cons_succ, List.setIfInBounds_toArray, List.set_cons_zero, List.set_cons_succ]
          refine' Dp.wpAnyL_take 19 rfl (by kernel_rfl) (fun _ _ _ h => h) (by rfl) ?hye19 hS5 ?reste19
          case hye19 => intro wx hSx; go_simp; try with_reducible rfl
          simp only [Act.put, List.getElem_toArray, List.getElem_cons_zero, List.getElem_cons_succ, List.setIfInBounds_toArray, List.set_cons_zero, List.set_cons_succ]
          refine' Dp.wpAnyL_take 20 rfl (by kernel_rfl) (fun _ _ _ h => h) (by rfl) ?hye20 hS5 ?reste20
          case hye20 => intro wx hSx; go_simp; try with_reducible rfl
          simp only [Act.put, List.getElem_toArray, List.getElem_cons_zero, List.getElem_cons_succ, List.setIfInBounds_toArray, List.set_cons_zero, List.set_cons_succ]
          refine' Dp.wpAnyL_take 21 rfl (by kernel_rfl) (fun _ _ _ h => h) (by rfl) ?hye21 hS5 ?reste21
          case hye21 => intro wx hSx; go_simp; try with_reducible rfl
          simp only [Act.put, List.getElem_toArray, List.getElem_cons_zero, List.getElem_cons_succ, List.setIfInBounds_toArray, List.set_cons_zero, List.set_cons_succ]
          refine' Dp.wpAnyL_take 22 rfl (by kernel_rfl) (fun _ _ _ h => h) (by rfl) ?hye22 hS5 ?reste22
          case hye22 => intro wx hSx; go_simp; try with_reducible rfl
          simp only [Act.put, List.getElem_toArray, List.getElem_cons_zero, List.getElem_cons_succ, List.setIfInBounds_toArray, List.set_cons_zero, List.set_cons_succ]
          refine' Dp.wpAnyL_take 23 rfl (by kernel_rfl) (fun _ _ _ h => h) (by rfl) ?hye23 hS5 ?reste23
          case hye23 => intro wx hSx; go_simp; try with_reducible rfl
          simp only [Act.put, List.getElem_toArray, List.getElem_cons_zero, List.getElem_cons_succ, List.setIfInBounds_toArray, List.set_cons_zero, List.set_cons_succ]
          refine' Dp.wpAnyL_take 24 rfl (by kernel_rfl) (fun _ _ _ h => h) (by rfl) ?hye24 hS5 ?reste24
          case hye24 => intro wx hSx; go_simp; try with_reducible rfl
          simp only [Act.put, List.getElem_toArray, List.getElem_cons_zero, List.getElem_cons_succ, List.setIfInBounds_toArray, List.set_cons_zero, List.set_cons_succ]
          refine' Dp.wpAnyL_take 25 rfl (by kernel_rfl) (fun _ _ _ h => h) (by rfl) ?hye25 hS5 ?reste25
          case hye25 => intro wx hSx; go_simp; try with_reducible rfl
          simp only [Act.put, List.getElem_toArray, List.getElem_cons_zero, List.getElem_cons_succ, List.setIfInBounds_toArray, List.set_cons_zero, List.set_cons_succ]
          refine' Dp.wpAnyL_take 26 rfl (by kernel_rfl) (fun _ _ _ h => h) (by rfl) ?hye26 hS5 ?reste26
          case hye26 => intro wx hSx; go_simp; try with_reducible rfl
          simp only [Act.put, List.getElem_toArray, List.getElem_cons_zero, List.getElem_cons_succ, List.setIfInBounds_toArray, List.set_cons_zero, List.set_cons_succ]
          refine' Dp.wpAnyL_take 27 rfl (by kernel_rfl) (fun _ _ _ h => h) (by rfl) ?hye27 hS5 ?reste27
          case hye27 => intro wx hSx; go_simp; try with_reducible rfl
          simp only [Act.put, List.getElem_toArray, List.getElem_cons_zero, List.getElem_cons_succ, List.setIfInBounds_toArray, List.set_cons_zero, List.set_cons_succ]
          refine' Dp.wpAnyL_take 28 rfl (by kernel_rfl) (fun _ _ _ h => h) (by rfl) ?hye28 hS5 ?reste28
          case hye28 => intro wx hSx; go_simp; try with_reducible rfl
          simp only [Act.put, List.getElem_toArray, List.getElem_cons_zero, List.getElem_cons_succ, List.setIfInBounds_toArray, List.set_cons_zero, List.set_cons_succ]
          refine Dp.wpAnyL_rest (by kernel_rfl) ?_
          refine Dp.wpAny_tail 29 rfl (by kernel_rfl) ?_
          simp only [List.drop_succ_cons, List.drop_zero]
          have hwd : Dp.isWord (B0 * 16777216 + B1 * 65536 + B2 * 256 + B3) := by unfold Dp.isWord; omega
          clear x0 x1 x2 x3 x4 x5 z1 z2 z3 y0 y1 y2 y3 c0 c1 c2 c3
          generalize hWS : B0 * 16777216 + B1 * 65536 + B2 * 256 + B3 = WS at *
          clear hWS
          go_wp2_with fail
          refine (keepPick first 256 _ hfi (by omega) (by omega)).mono ?_
          rintro e w6 ⟨rfl, rfl⟩
          obtain ⟨F, hF, hFl⟩ : ∃ F : Nat, Dp.pickOf first 256 = (F : Int) ∧ F < 256 := ⟨(Dp.pickOf first 256).toNat, by have := Dp.pickOf_bd first 256 (by omega); omega, by have := Dp.pickOf_bd first 256 (by omega); omega⟩
          rw [hF]
          clear hF
          go_wp2_with fail
          refine (keepTwin _ WS F hwd hFl).mono ?_
          rintro e w7 ⟨⟨t, rfl, htw⟩, k7⟩
          have HTW := Hid.mk_ htw
          have htb : 0 ≤ t ∧ t < 4294967296 := htw.word
          have k57 := hS5.trans k7
          have HR7 := Hid.mk_ (HRW.out.keep k57 (fun e => e))
          have HM7 := Hid.mk_ (HM5.out.keep k57 (fun e => e) (fun _ _ e => e))
          have HK7 := Hid.mk_ (HK5.out.trans k57)
          have cl : ∀ i, i < L → ∃ u, w7.cell? ⟨g, i, none⟩ = some u := fun i hi => ⟨_, HR7.out.cellAt i (by rw [List.length_append, HVL.out]; omega)⟩
          obtain ⟨u0, d0⟩ := cl 47 (by omega)
          obtain ⟨u1, d1⟩ := cl 48 (by omega)
          obtain ⟨u2, d2⟩ := cl 49 (by omega)
          obtain ⟨u3, d3⟩ := cl 50 (by omega)
          have f0 := HR7.out.frozen 47
          have f1 := HR7.out.frozen 48
          have f2 := HR7.out.frozen 49
          have f3 := HR7.out.frozen 50
          have HRF : Hid (Dp.Row ((((w7.setCell ⟨g, 47, none⟩ (.int .u8 (t / 16777216))).setCell ⟨g, 48, none⟩ (.int .u8 (t / 65536 % 256))).setCell ⟨g, 49, none⟩ (.int .u8 (t / 256 % 256))).setCell ⟨g, 50, none⟩ (.int .u8 (t % 256))) g 5 (Dp.vals (Dp.setWord W 47 t) ++ tail)) := by
            have h := (((HR7.out.set 47 (.int .u8 (t / 16777216))).set 48 (.int .u8 (t / 65536 % 256))).set 49 (.int .u8 (t / 256 % 256))).set 50 (.int .u8 (t % 256))
            rw [List.set_append_left _ _ (by rw [HVL.out]; omega), Dp.vals_set _ _ _ (by omega), List.set_append_left _ _ (by rw [Dp.vals_length, List.length_set, HWL.out]; omega), Dp.vals_set _ _ _ (by omega), List.set_append_left _ _ (by rw [Dp.vals_length, List.length_set, List.length_set, HWL.out]; omega), Dp.vals_set _ _ _ (by omega), List.set_append_left _ _ (by rw [Dp.vals_length, List.length_set, List.length_set, List.length_set, HWL.out]; omega), Dp.vals_set _ _ _ (by omega)] at h
            exact h
          have kst : Dp.Keeps (fun q => q = g) w7 ((((w7.setCell ⟨g, 47, none⟩ (.int .u8 (t / 16777216))).setCell ⟨g, 48, none⟩ (.int .u8 (t / 65536 % 256))).setCell ⟨g, 49, none⟩ (.int .u8 (t / 256 % 256))).setCell ⟨g, 50, none⟩ (.int .u8 (t % 256))) :=
            ((((Dp.Keeps.refl (fun q => q = g) w7).setCell (p := ⟨g, 47, none⟩) (.inr rfl) _).setCell (p := ⟨g, 48, none⟩) (.inr rfl) _).setCell (p := ⟨g, 49, none⟩) (.inr rfl) _).setCell (p := ⟨g, 50, none⟩) (.inr rfl) _
          have HMF := Hid.mk_ (HM7.out.keep kst (fun e => by omega) (fun q hq e => by have := HGB.out q hq; omega))
          have HKF := Hid.mk_ (HK7.out.next kst (fun q hq e => by omega))
          clear kst k57 k7 htw cl
          go_wp2_with fail
          refine (progMStamp _ bm G vs m HMF.out).mono ?_
          rintro e w8 ⟨rfl, k8⟩
          rw [HST.out]
          have HM8 := Hid.mk_ (HMF.out.keep k8 (fun e => e) (fun _ _ e => e))
          have HK8 := Hid.mk_ (HKF.out.trans k8)
          have HR8 := Hid.mk_ (HRF.out.keep k8 (fun e => e))
          have HCU8 : Hid (Dp.Cutting w8 (.slice (some ⟨g, 0, none⟩) L (L + tail.length)) (Dp.setWord W 47 t)) := by
            have ho : Dp.Own w8 5 (.slice (some ⟨g, 0, none⟩) L (L + tail.length)) (Dp.vals (Dp.setWord W 47 t)) := .inr ⟨g, tail, by rw [Dp.vals_length, Dp.setWord_length, HWL.out], HR8.out, by rw [Dp.vals_length, Dp.setWord_length, HWL.out]; exact htl⟩
            exact Dp.own_cutting ho
          have HLL : Hid ((Dp.setWord W 47 t).length = L) := by unfold Hid; rw [Dp.setWord_length, HWL.out]
          clear k8 HMF HKF HRF d0 d1 d2 d3 f0 f1 f2 f3 HR7 HM7 HK7
          generalize Dp.setWord W 47 t = W2 at *
          have HCU9 : Hid (Dp.Cutting w8 (.slice (some ⟨g, 0, none⟩) W2.length (L + tail.length)) W2) := by unfold Hid; rw [HLL.out]; exact HCU8.out
          go_wp2_with fail
          have hcc := progCheck w8 eb S _ _ W2 (HE.out.keep HK8.out) HCU9.out (by rw [HLL.out]; omega)
          rw [HLL.out] at hcc
          refine hcc.mono ?_
          rintro e w9 ⟨rfl, k9⟩
          have HM9 := Hid.mk_ (HM8.out.keep k9 (fun e => e) (fun _ _ e => e))
          have HK9 := Hid.mk_ (HK8.out.trans k9)
          have HCU10 := Hid.mk_ (HCU9.out.still k9)
          clear hcc k9 HM8 HK8
          generalize Dp.checked S W2 = CK at *
          obtain ⟨CK1, CK2⟩ := CK
          try simp only at hck
          try subst hck
          go_wp2_with fail
          have hll := keepLies w9 eb bm G vs m v vt raw texts ahead _ _ W2 (HE.out.keep HK9.out) HM9.out HMM.out (HWI.out.still HK9.out) H64.out (HTI.out.still HK9.out) ha HCU10.out (by rw [HLL.out]; omega)
          rw [HLL.out] at hll
          refine hll.mono ?_
          rintro e w10 ⟨rfl, k10⟩
          have HK10 := Hid.mk_ (HK9.out.trans k10)
          clear hll k10
          go_wp2
          go_ret
          exact ⟨rfl, HK10.out⟩
  · obtain ⟨a, c, ev⟩ := ho5.isSlice
    subst ev
    generalize m.step.2 = ME at *
    have hb : (ME != 0) = true := by simpa using h0
    go_wp2
    go_ret
    exact ⟨rfl, HK5.out⟩
end Go.Proofs.YtdipojfngdceoaaGreatDoor
