/- Steps on the way: RefUnlabel, RefFits. -/
import Derived.Test.YtdipojfngdceoaaGreatDoorShQ07
import Derived.Test.YtdipojfngdceoaaGreatDoorShQ09
import Derived.Test.YtdipojfngdceoaaGreatDoorShQ10
import Derived.Test.YtdipojfngdceoaaGreatDoorShQ18
import Derived.Test.YtdipojfngdceoaaGreatDoorShQ19
import Derived.Test.YtdipojfngdceoaaGreatDoorProg
import Derived.WalkKit
import Derived.WalkSpells
import Derived.WalkLawsBesides
import Derived.Deep.RegionHeld3
import Derived.Deep.DeepCutAuto
import Derived.BigQuiet
import Derived.Deep.QuietTactic
namespace Go.Proofs.YtdipojfngdceoaaGreatDoor
open Go.RowKit
namespace Dp
def unreg (l : List UInt8) (i : Nat) : Int := numTo l (13 + 4 * i) 4
def unlab (l : List UInt8) : Cs := ⟨numTo l 0 4, numTo l 4 4, numTo l 8 4, ((l.getD 12 0).toNat : Int) == 1, (List.range 8).map (unreg l)⟩
def unroot (l : List UInt8) : Int := numTo l 45 2
def unregs (l : List UInt8) (k : Nat) : List Int := (List.range k).map (unreg l) ++ List.replicate (8 - k) 0
theorem unregs_length (l : List UInt8) (k : Nat) (hk : k ≤ 8) : (unregs l k).length = 8 := by unfold unregs; simp; omega
theorem unregs_put (l : List UInt8) (k : Nat) (hk : k < 8) : (unregs l k).set k (unreg l k) = unregs l (k + 1) := by
 unfold unregs
 rcases (by omega : k = 0 ∨ k = 1 ∨ k = 2 ∨ k = 3 ∨ k = 4 ∨ k = 5 ∨ k = 6 ∨ k = 7) with rfl | rfl | rfl | rfl | rfl | rfl | rfl | rfl <;> rfl
theorem unregs_all (l : List UInt8) : unregs l 8 = (List.range 8).map (unreg l) := by unfold unregs; simp
theorem unlab_ok (l : List UInt8) : (unlab l).Ok := by
 refine ⟨numTo_bd l _ _ (Nat.le_refl _), numTo_bd l _ _ (Nat.le_refl _), numTo_bd l _ _ (Nat.le_refl _), by simp [unlab], ?_⟩
 intro x hx
 simp only [unlab, List.mem_map] at hx
 obtain ⟨i, _, rfl⟩ := hx
 exact numTo_bd l _ _ (Nat.le_refl _)
theorem Keeps.set13 {S : Nat → Prop} {a w : World} (h : Dp.Keeps S a w) {g : Nat} (hg : a.heap.size ≤ g) (v0 v1 v2 v3 v4 v5 v6 v7 v8 v9 v10 v11 v12 : Value) : Dp.Keeps S a (((((((((((((w.setCell ⟨g, 0, none⟩ v0).setCell ⟨g, 1, none⟩ v1).setCell ⟨g, 2, none⟩ v2).setCell ⟨g, 3, none⟩ v3).setCell ⟨g, 4, none⟩ v4).setCell ⟨g, 5, none⟩ v5).setCell ⟨g, 6, none⟩ v6).setCell ⟨g, 7, none⟩ v7).setCell ⟨g, 8, none⟩ v8).setCell ⟨g, 9, none⟩ v9).setCell ⟨g, 10, none⟩ v10).setCell ⟨g, 11, none⟩ v11).setCell ⟨g, 12, none⟩ v12) :=
 ((((((((((((h.setCell (.inl hg) _).setCell (.inl hg) _).setCell (.inl hg) _).setCell (.inl hg) _).setCell (.inl hg) _).setCell (.inl hg) _).setCell (.inl hg) _).setCell (.inl hg) _).setCell (.inl hg) _).setCell (.inl hg) _).setCell (.inl hg) _).setCell (.inl hg) _).setCell (.inl hg) _
end Dp
namespace Dp
theorem Row.set13 {w : World} {g : Nat} {e : TypeId} {u0 u1 u2 u3 u4 u5 u6 u7 u8 u9 u10 u11 u12 : Value} (h : Row w g e [u0, u1, u2, u3, u4, u5, u6, u7, u8, u9, u10, u11, u12]) (v0 v1 v2 v3 v4 v5 v6 v7 v8 v9 v10 v11 v12 : Value) : Row (((((((((((((w.setCell ⟨g, 0, none⟩ v0).setCell ⟨g, 1, none⟩ v1).setCell ⟨g, 2, none⟩ v2).setCell ⟨g, 3, none⟩ v3).setCell ⟨g, 4, none⟩ v4).setCell ⟨g, 5, none⟩ v5).setCell ⟨g, 6, none⟩ v6).setCell ⟨g, 7, none⟩ v7).setCell ⟨g, 8, none⟩ v8).setCell ⟨g, 9, none⟩ v9).setCell ⟨g, 10, none⟩ v10).setCell ⟨g, 11, none⟩ v11).setCell ⟨g, 12, none⟩ v12) g e [v0, v1, v2, v3, v4, v5, v6, v7, v8, v9, v10, v11, v12] :=
 ((((((((((((h.set 0 v0).set 1 v1).set 2 v2).set 3 v3).set 4 v4).set 5 v5).set 6 v6).set 7 v7).set 8 v8).set 9 v9).set 10 v10).set 11 v11).set 12 v12
def zeroSt : List Value := stCells ⟨0, 0, 0, false, [0, 0, 0, 0, 0, 0, 0, 0]⟩ 0
end Dp
set_option maxRecDepth 100000 in
set_option maxHeartbeats 4000000 in
theorem refUnlabel (l : List UInt8) (w : World) (hl : l.length = 47) :
  Calls Tryz.prog 113 #[.string (Dp.str l)] w fun e w' => e = .returned (.tuple #[Dp.stVal (Dp.unlab l) (Dp.unroot l), .bool (decide (((l.getD 12 0).toNat : Int) < 2))]) ∧ Dp.Keeps (fun _ => False) w w' := by
 have hsz := Dp.str_size l
 rw [hl] at hsz
 have HN0 : Hid (∀ wx : World, Calls Tryz.prog 115 #[.string (Dp.str l), .int .i64 0, .int .i64 4] wx fun e w' => e = .returned (.int .i64 (Dp.numTo l 0 4)) ∧ w' = wx) := fun wx => refNumber l 0 4 wx (by omega) (by omega) (by omega)
 have HN1 : Hid (∀ wx : World, Calls Tryz.prog 115 #[.string (Dp.str l), .int .i64 4, .int .i64 4] wx fun e w' => e = .returned (.int .i64 (Dp.numTo l 4 4)) ∧ w' = wx) := fun wx => refNumber l 4 4 wx (by omega) (by omega) (by omega)
 have HN2 : Hid (∀ wx : World, Calls Tryz.prog 115 #[.string (Dp.str l), .int .i64 8, .int .i64 4] wx fun e w' => e = .returned (.int .i64 (Dp.numTo l 8 4)) ∧ w' = wx) := fun wx => refNumber l 8 4 wx (by omega) (by omega) (by omega)
 have HN3 : Hid (∀ wx : World, Calls Tryz.prog 115 #[.string (Dp.str l), .int .i64 45, .int .i64 2] wx fun e w' => e = .returned (.int .i64 (Dp.numTo l 45 2)) ∧ w' = wx) := fun wx => refNumber l 45 2 wx (by omega) (by omega) (by omega)
 have HNK : Hid (∀ (k : Nat) (a : Int) (wx : World), k < 8 → a = ((13 + 4 * k : Nat) : Int) → Calls Tryz.prog 115 #[.string (Dp.str l), .int .i64 a, .int .i64 4] wx fun e w' => e = .returned (.int .i64 (Dp.unreg l k)) ∧ w' = wx) := by
  rintro k a wx hk rfl
  exact refNumber l (13 + 4 * k) 4 wx (by omega) (by omega) (by omega)
 have HU : Hid (Dp.unlab l = ⟨Dp.numTo l 0 4, Dp.numTo l 4 4, Dp.numTo l 8 4, ((l.getD 12 0).toNat : Int) == 1, Dp.unregs l 8⟩ ∧ Dp.unroot l = Dp.numTo l 45 2) := by
  unfold Hid Dp.unlab Dp.unroot; rw [Dp.unregs_all]; exact ⟨rfl, rfl⟩
 have HG : Hid ((Dp.str l)[12]'(by omega) = l.getD 12 0) := Dp.str_get l 12 (by omega)
 generalize hB : l.getD 12 0 = B at *
 have hg := HG.out
 have hbyte : B.toNat < 256 := B.toNat_lt
 clear hB
 have HB := Hid.mk_ hg
 rw [HU.out.1, HU.out.2]
 generalize Dp.numTo l 0 4 = a0 at *
 generalize Dp.numTo l 4 4 = a1 at *
 generalize Dp.numTo l 8 4 = a2 at *
 generalize Dp.numTo l 45 2 = a3 at *
 go_enter Tryz.func113, Tryz.ntmps113
 go_wp2_with (refine Dp.wpList_alloc_row rfl 74 rfl _ zeroState ?_)
 intro w1 r1 z1 k1
 go_upto_region 1 with (fail)
 go_cut [4] (fun t wx => t = .pointer (some ⟨w.heap.size + 1, 0, none⟩) ∧ Dp.Row wx (w.heap.size + 1) 74 (Dp.stCells ⟨a0, a1, a2, ((B.toNat : Int) == 1), Dp.unregs l 0⟩ a3) ∧ Dp.Row wx w.heap.size 74 Dp.zeroSt ∧ Dp.Keeps (fun _ => False) w wx)
 case first =>
  refine Dp.wp_region_L (fun _ => True) 14 mixedP ?_
  refine' Dp.tj 0 trivial ?_
  simp only [Act.put, Dp.tks]
  refine' Dp.wpAnyL_tell 1 rfl (by kernel_rfl) (fun _ _ _ h => h) (by rfl) 115 #[.string (Dp.str l), .int .i64 0, .int .i64 4] ?he1 (fun wx _ => HN0.out wx) trivial ?rest1
  case he1 => intro wx hSx; go_simp; try with_reducible rfl
  simp only [Act.put, Dp.tks]
  refine' Dp.tj 2 trivial ?_
  simp only [Act.put, Dp.tks]
  refine' Dp.wpAnyL_tell 3 rfl (by kernel_rfl) (fun _ _ _ h => h) (by rfl) 115 #[.string (Dp.str l), .int .i64 4, .int .i64 4] ?he3 (fun wx _ => HN1.out wx) trivial ?rest3
  case he3 => intro wx hSx; go_simp; try with_reducible rfl
  simp only [Act.put, Dp.tks]
  refine' Dp.tj 4 trivial ?_
  simp only [Act.put, Dp.tks]
  refine' Dp.wpAnyL_tell 5 rfl (by kernel_rfl) (fun _ _ _ h => h) (by rfl) 115 #[.string (Dp.str l), .int .i64 8, .int .i64 4] ?he5 (fun wx _ => HN2.out wx) trivial ?rest5
  case he5 => intro wx hSx; go_simp; try with_reducible rfl
  simp only [Act.put, Dp.tks]
  refine' Dp.tj 6 trivial ?_
  simp only [Act.put, Dp.tks]
  refine' Dp.tk (v := .int .u8 B.toNat) 7 ?hy7 trivial ?rest7
  case hy7 => intro wx hSx; go_simp; try with_reducible rfl
  simp only [Act.put, Dp.tks]
  refine' Dp.tk (v := .bool ((B.toNat : Int) == 1)) 8 ?hy8 trivial ?rest8
  case hy8 => intro wx hSx; go_simp; try with_reducible rfl
  simp only [Act.put, Dp.tks]
  refine' Dp.tj 9 trivial ?_
  simp only [Act.put, Dp.tks]
  refine' Dp.wpAnyL_tell 10 rfl (by kernel_rfl) (fun _ _ _ h => h) (by rfl) 115 #[.string (Dp.str l), .int .i64 45, .int .i64 2] ?he10 (fun wx _ => HN3.out wx) trivial ?rest10
  case he10 => intro wx hSx; go_simp; try with_reducible rfl
  simp only [Act.put, Dp.tks]
  refine' Dp.tk (v := Dp.stVal ⟨a0, a1, a2, ((B.toNat : Int) == 1), [0, 0, 0, 0, 0, 0, 0, 0]⟩ a3) 11 ?hy11 trivial ?rest11
  case hy11 => intro wx hSx; go_simp; rfl
  simp only [Act.put, Dp.tks]
  refine Dp.wpAnyL_true _ _ _ _ ?_
  refine Dp.wpAny_tail 12 rfl (by kernel_rfl) ?_
  simp only [List.drop_succ_cons, List.drop_zero]
  have e1 : w1.drew.heap.size = w.heap.size + 1 := z1
  have HR0 := Hid.mk_ r1
  have HK0 := Hid.mk_ k1
  clear r1 k1
  refine Dp.wpList_alloc_row rfl 74 rfl _ zeroState ?_
  intro w2 r2 z2 k2
  rw [e1] at r2 z2 ⊢
  have HR2 := Hid.mk_ (Dp.row_nil r2)
  go_wp2_with (refine Dp.wpList_store_in rfl 74 _ _ rfl (w.heap.size + 1) 0 rfl (Dp.stCells ⟨a0, a1, a2, ((B.toNat : Int) == 1), [0, 0, 0, 0, 0, 0, 0, 0]⟩ a3) rfl 74 [] _ [] HR2.out rfl rfl (by rw [sizeState]; rfl) (Dp.stCells_one _ _) ?_)
  intro w3 r3 z3 k3
  have HR3 : Hid (Dp.Row w3 (w.heap.size + 1) 74 (Dp.stCells ⟨a0, a1, a2, ((B.toNat : Int) == 1), Dp.unregs l 0⟩ a3)) := by
   unfold Hid; rw [show Dp.unregs l 0 = [0, 0, 0, 0, 0, 0, 0, 0] from rfl]; simpa using r3
  have k23 : Dp.Keeps (fun _ => False) w1 w3 := ((Dp.Keeps.refl _ w1).drew.trans k2).next k3 (fun q hq e => by omega)
  have HR03 := Hid.mk_ (HR0.out.keep k23 (fun e => e))
  have HK3 := Hid.mk_ (HK0.out.trans k23)
  clear r2 r3 HR2 k2 k3 z2 z3 k23
  go_wp2
  go_meet
  case rel => exact ⟨rfl, HR3.out, HR03.out, HK3.out⟩
 case rest =>
  obtain ⟨rfl, rg, r0, kk⟩ := hcut
  clear r1 k1 hg HG HN0 HN1 HN2 HN3
  go_wp2
  go_loopw [5] (fun i wx => ∃ k : Nat, k ≤ 8 ∧ i = .int .i64 k ∧ Dp.Row wx (w.heap.size + 1) 74 (Dp.stCells ⟨a0, a1, a2, ((B.toNat : Int) == 1), Dp.unregs l k⟩ a3) ∧ Dp.Row wx w.heap.size 74 Dp.zeroSt ∧ Dp.Keeps (fun _ => False) w wx) (fun i _ => 8 - (intOf i).toNat)
  case atStart => exact ⟨0, Nat.zero_le _, rfl, rg, r0, kk⟩
  case round =>
   obtain ⟨k, hk, rfl, rk, rz, kz⟩ := hrel
   clear rg r0 kk
   by_cases hlt : k < 8
   ·have ck := rk.stReg (Dp.unregs_length l k hk) (k : Int) (by omega)
    rw [Int.toNat_natCast] at ck
    have fr := rk.frozen (4 + k)
    have HP := Dp.stCells_put ⟨a0, a1, a2, ((B.toNat : Int) == 1), Dp.unregs l k⟩ a3 (Dp.unregs_length l k hk) (k : Int) (Dp.unreg l k) (by omega)
    rw [Int.toNat_natCast] at HP
    have HRK : Hid (Dp.Row (wr.setCell ⟨w.heap.size + 1, 4 + k, none⟩ (.int .i64 (Dp.unreg l k))) (w.heap.size + 1) 74 (Dp.stCells ⟨a0, a1, a2, ((B.toNat : Int) == 1), Dp.unregs l (k + 1)⟩ a3)) := by
     have h := rk.set (4 + k) (.int .i64 (Dp.unreg l k))
     rw [HP] at h
     have e : (⟨a0, a1, a2, ((B.toNat : Int) == 1), Dp.unregs l k⟩ : Dp.Cs).put (k : Int) (Dp.unreg l k) = ⟨a0, a1, a2, ((B.toNat : Int) == 1), Dp.unregs l (k + 1)⟩ := by
      unfold Dp.Cs.put; rw [Int.toNat_natCast, Dp.unregs_put l k hlt]
     rw [e] at h
     exact h
    have HRZ : Hid (Dp.Row (wr.setCell ⟨w.heap.size + 1, 4 + k, none⟩ (.int .i64 (Dp.unreg l k))) w.heap.size 74 Dp.zeroSt) := rz.setOther _ _ (by simp)
    have HKZ : Hid (Dp.Keeps (fun _ => False) w (wr.setCell ⟨w.heap.size + 1, 4 + k, none⟩ (.int .i64 (Dp.unreg l k)))) := kz.setCell (.inl (by simp)) _
    clear HP rk rz kz
    go_wp2_with fail
    refine (HNK.out k _ _ hlt (by omega)).mono ?_
    rintro e w3 ⟨rfl, rfl⟩
    go_wp2
    go_roundw
    case rel => exact ⟨k + 1, by omega, by go_num, HRK.out, HRZ.out, HKZ.out⟩
    case measure => simp [intOf]; omega
   ·obtain rfl : k = 8 := by omega
    have h8 : (Dp.unregs l 8).length = 8 := Dp.unregs_length l 8 hk
    obtain ⟨x0, x1, x2, x3, x4, x5, x6, x7, hx⟩ : ∃ x0 x1 x2 x3 x4 x5 x6 x7, Dp.unregs l 8 = [x0, x1, x2, x3, x4, x5, x6, x7] := ⟨_, _, _, _, _, _, _, _, rfl⟩
    have hrk : Dp.Row wr (w.heap.size + 1) 74 [.int .i64 a0, .int .i64 a1, .int .i64 a2, .bool ((B.toNat : Int) == 1), .int .i64 x0, .int .i64 x1, .int .i64 x2, .int .i64 x3, .int .i64 x4, .int .i64 x5, .int .i64 x6, .int .i64 x7, .int .i64 a3] := by rw [hx] at rk; exact rk
    have hrz : Dp.Row wr w.heap.size 74 [.int .i64 0, .int .i64 0, .int .i64 0, .bool false, .int .i64 0, .int .i64 0, .int .i64 0, .int .i64 0, .int .i64 0, .int .i64 0, .int .i64 0, .int .i64 0, .int .i64 0] := rz
    have c0 := hrk.cellAt 0 (by simp)
    have c1 := hrk.cellAt 1 (by simp)
    have c2 := hrk.cellAt 2 (by simp)
    have c3 := hrk.cellAt 3 (by simp)
    have c4 := hrk.cellAt 4 (by simp)
    have c5 := hrk.cellAt 5 (by simp)
    have c6 := hrk.cellAt 6 (by simp)
    have c7 := hrk.cellAt 7 (by simp)
    have c8 := hrk.cellAt 8 (by simp)
    have c9 := hrk.cellAt 9 (by simp)
    have c10 := hrk.cellAt 10 (by simp)
    have c11 := hrk.cellAt 11 (by simp)
    have c12 := hrk.cellAt 12 (by simp)
    have d0 := hrz.cellAt 0 (by simp)
    have f0 := hrz.frozen 0
    have d1 := hrz.cellAt 1 (by simp)
    have f1 := hrz.frozen 1
    have d2 := hrz.cellAt 2 (by simp)
    have f2 := hrz.frozen 2
    have d3 := hrz.cellAt 3 (by simp)
    have f3 := hrz.frozen 3
    have d4 := hrz.cellAt 4 (by simp)
    have f4 := hrz.frozen 4
    have d5 := hrz.cellAt 5 (by simp)
    have f5 := hrz.frozen 5
    have d6 := hrz.cellAt 6 (by simp)
    have f6 := hrz.frozen 6
    have d7 := hrz.cellAt 7 (by simp)
    have f7 := hrz.frozen 7
    have d8 := hrz.cellAt 8 (by simp)
    have f8 := hrz.frozen 8
    have d9 := hrz.cellAt 9 (by simp)
    have f9 := hrz.frozen 9
    have d10 := hrz.cellAt 10 (by simp)
    have f10 := hrz.frozen 10
    have d11 := hrz.cellAt 11 (by simp)
    have f11 := hrz.frozen 11
    have d12 := hrz.cellAt 12 (by simp)
    have f12 := hrz.frozen 12
    have HR4 := Hid.mk_ (hrz.set13 (.int .i64 a0) (.int .i64 a1) (.int .i64 a2) (.bool ((B.toNat : Int) == 1)) (.int .i64 x0) (.int .i64 x1) (.int .i64 x2) (.int .i64 x3) (.int .i64 x4) (.int .i64 x5) (.int .i64 x6) (.int .i64 x7) (.int .i64 a3))
    have HK4 := Hid.mk_ (Dp.Keeps.set13 kz (g := w.heap.size) (Nat.le_refl _) (.int .i64 a0) (.int .i64 a1) (.int .i64 a2) (.bool ((B.toNat : Int) == 1)) (.int .i64 x0) (.int .i64 x1) (.int .i64 x2) (.int .i64 x3) (.int .i64 x4) (.int .i64 x5) (.int .i64 x6) (.int .i64 x7) (.int .i64 a3))
    have HV : Hid (Dp.stVal ⟨a0, a1, a2, ((B.toNat : Int) == 1), Dp.unregs l 8⟩ a3 = .agg [.int .i64 a0, .int .i64 a1, .int .i64 a2, .bool ((B.toNat : Int) == 1), .int .i64 x0, .int .i64 x1, .int .i64 x2, .int .i64 x3, .int .i64 x4, .int .i64 x5, .int .i64 x6, .int .i64 x7, .int .i64 a3].toArray) := by unfold Hid; rw [hx]; rfl
    have hg := HB.out
    clear rk rz kz hrk hrz h8
    simp only [List.getElem_cons_zero, List.getElem_cons_succ] at c0 c1 c2 c3 c4 c5 c6 c7 c8 c9 c10 c11 c12 d0 d1 d2 d3 d4 d5 d6 d7 d8 d9 d10 d11 d12
    go_wp2
    go_region
    go_wp2
    refine bodyPost_ret (Dp.results_row_tmp rfl _ _ w.heap.size 74 _ _ rfl HR4.out.drew Tryz.underlying74 rfl (by rw [sizeState]; rfl)) rfl ⟨by rw [HV.out]; rfl, HK4.out.drew⟩
namespace Dp
def part (l : List UInt8) (at_ n : Nat) : List UInt8 := (l.drop at_).take n
theorem part_length (l : List UInt8) (at_ n : Nat) (h : at_ + n ≤ l.length) : (part l at_ n).length = n := by
 unfold part; rw [List.length_take, List.length_drop]; omega
theorem str_extract (l : List UInt8) (a b : Nat) : (str l).extract a b = str (part l a (b - a)) := by
 apply ByteArray.ext
 unfold str part
 rw [ByteArray.data_extract]
 simp
def fits (l : List UInt8) (at_ n : Nat) (root : Int) : Bool := decide (at_ + 20 ≤ l.length) && rooted (part l at_ 20) (numTo l at_ 4) n 8 == root
end Dp
set_option maxHeartbeats 1000000 in
theorem refFits (l : List UInt8) (at_ n : Nat) (root : Int) (w : World) (hat : at_ ≤ 1000) (hl : l.length ≤ 16777216) (hn : n ≤ 4294967296) :
  Calls Tryz.prog 114 #[.string (Dp.str l), .int .i64 at_, .int .i64 n, .int .i64 root] w fun e w' => e = .returned (.bool (Dp.fits l at_ n root)) ∧ Dp.Keeps (fun _ => False) w w' := by
 have hsz := Dp.str_size l
 by_cases hle : at_ + 20 ≤ l.length
 ·have HF : Hid (Dp.fits l at_ n root = (Dp.rooted (Dp.part l at_ 20) (Dp.numTo l at_ 4) n 8 == root)) := by
   unfold Hid Dp.fits; rw [decide_eq_true hle, Bool.true_and]
  have HN : Hid (∀ wx : World, Calls Tryz.prog 115 #[.string (Dp.str l), .int .i64 at_, .int .i64 4] wx fun e w' => e = .returned (.int .i64 (Dp.numTo l at_ 4)) ∧ w' = wx) := by
   intro wx
   exact refNumber l at_ 4 wx (by omega) (by omega) hl
  have HR : Hid (∀ wx : World, Calls Tryz.prog 127 #[.string ((Dp.str l).extract at_ (at_ + 20)), .int .i64 (Dp.numTo l at_ 4), .int .i64 n] wx fun e w' => e = .returned (.int .i64 (Dp.rooted (Dp.part l at_ 20) (Dp.numTo l at_ 4) n 8)) ∧ Dp.Keeps (fun _ => False) wx w') := by
   intro wx
   rw [Dp.str_extract, Nat.add_sub_cancel_left]
   exact refRooted _ _ n wx (by rw [Dp.part_length l at_ 20 hle]; omega) (Dp.numTo_bd l at_ 4 (Nat.le_refl _)) hn
  have hw20 : IntKind.i64.wrap ((at_ : Int) + 20) = (at_ : Int) + 20 := IntWalk.i64_in _ (by omega)
  have hg : (at_ : Int) + 20 ≤ (l.length : Int) := by omega
  have hg0 : (0 : Int) ≤ (at_ : Int) + 20 := by omega
  have hg1 : (at_ : Int) ≤ (at_ : Int) + 20 := by omega
  have hg2 : (0 : Int) ≤ (at_ : Int) := by omega
  have hgd : decide ((at_ : Int) + 20 ≤ (l.length : Int)) = true := decide_eq_true hg
  generalize Dp.rooted (Dp.part l at_ 20) (Dp.numTo l at_ 4) n 8 = R at *
  generalize Dp.numTo l at_ 4 = O at *
  go_enter Tryz.func114, Tryz.ntmps114
  go_wp2
  go_region_held3 (fun wx => Dp.Keeps (fun _ => False) w wx)
   (first | with_reducible exact (Dp.Keeps.refl _ _).drew | with_reducible exact Dp.Keeps.trans ((Dp.Keeps.refl _ _).drew) k' | with_reducible exact Dp.Keeps.trans (by with_reducible assumption) k')
   ((first | (go_at_call 115; refine (HN.out _).mono ?_; rintro e w' ⟨rfl, rfl⟩) | (go_at_call 127; refine (HR.out _).mono ?_; rintro e w' ⟨rfl, k'⟩)))
  go_wp2
  go_ret
  exact ⟨by rw [HF.out]; rfl, by assumption⟩
 ·have HF : Hid (Dp.fits l at_ n root = false) := by
   unfold Hid Dp.fits; rw [decide_eq_false hle, Bool.false_and]
  have hg : decide ((at_ : Int) + 20 ≤ (l.length : Int)) = false := decide_eq_false (by omega)
  go_enter Tryz.func114, Tryz.ntmps114
  go_wp2
  go_quiet (fail)
  go_wp2
  go_ret
  exact ⟨by rw [HF.out]; rfl, (Dp.Keeps.refl _ _).drewN _⟩
end Go.Proofs.YtdipojfngdceoaaGreatDoor
