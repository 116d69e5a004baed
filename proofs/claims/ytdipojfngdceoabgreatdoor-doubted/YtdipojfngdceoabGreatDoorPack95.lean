/- Steps on the way: ProgParting. -/
import Derived.Test.YtdipojfngdceoabGreatDoorPack83
import Derived.Laws.BytesArg
/- Where two accounts part. -/
namespace Go.Proofs.YtdipojfngdceoabGreatDoor
open Go.RowKit

namespace Dp
theorem run_toStr {w : World} {v : Value} {l : List UInt8} (h : Bytes w v l) : (convert 35 9 v).run Tryz.prog w = .ok (.string (str l)) w := by
  obtain ⟨b, o, ad, cap, rfl, hl, hne, hc⟩ := h
  cases ad with
  | none =>
    have : l = [] := by
      by_cases e : l = []
      · exact e
      · exact absurd (hne e) (by simp)
    subst this
    exact run_convert_bytes_nil w 35 5 Tryz.underlying35 Tryz.underlying5 _ cap 9 Tryz.underlying9
  | some a =>
    refine run_convert_bytes_back (P := Tryz.prog) w 35 9 5 a cap l Tryz.underlying35 Tryz.underlying5 Tryz.underlying9 (fun j hj => ?_)
    have e : a = ⟨b, o, none⟩ := Option.some.inj (hne (by intro e; rw [e] at hj; simp at hj))
    rw [e]
    have : (⟨b, o, none⟩ : Addr).add j = ⟨b, o + j, none⟩ := by unfold Addr.add; split <;> simp_all
    rw [this]
    exact hc j hj
theorem str_inj {a b : List UInt8} : ((str a).toList == (str b).toList) = decide (a = b) := by
  rw [ByteArray.toList_eq, ByteArray.toList_eq, str_data, str_data]
  by_cases h : a = b
  · subst h; simp
  · simp [h]
end Dp

set_option maxRecDepth 100000 in
theorem progEqual (w : World) (v u : Value) (l r : List UInt8) (hv : Dp.Bytes w v l) (hu : Dp.Bytes w u r) :
    Calls Tryz.prog 72 #[v, u] w fun e w' => e = .returned (.bool (decide (l = r))) ∧ w' = w := by
  have h1 := Dp.run_toStr hv
  have h2 := Dp.run_toStr hu
  obtain ⟨vb, vo, vad, vcap, ev, _⟩ := hv
  obtain ⟨ub, uo, uad, ucap, eu, _⟩ := hu
  subst ev
  subst eu
  have HI : Hid (((Dp.str l).toList == (Dp.str r).toList) = decide (l = r)) := Dp.str_inj
  generalize Dp.str l = sl at *
  generalize Dp.str r = sr at *
  go_enter Tryz.func72, Tryz.ntmps72
  go_wp2
  go_ret
  rw [← HI.out]
  exact ⟨rfl, rfl⟩

namespace Dp
theorem texts_elem {w0 w : World} {v : Value} {xs : List Value} {X : List (List UInt8)} (ho : Own w 35 v xs) (hx : TextsAt w0 w xs X) (i : Nat) (hi : i < X.length) : ∃ g cap vi, v = .slice (some ⟨g, 0, none⟩) X.length cap ∧ xs[i]? = some vi ∧ w.cell? ⟨g, i, none⟩ = some vi ∧ Own w 5 vi (vals X[i]) := by
  obtain ⟨hl, he⟩ := hx
  obtain ⟨vi, h1, h2, _⟩ := he i hi
  rcases ho with ⟨_, h⟩ | ⟨g, tail, hv, hr, _⟩
  · rw [h] at hl; simp at hl; omega
  · rw [hl] at hv
    refine ⟨g, _, vi, hv, h1, ?_, h2⟩
    rw [hr.cell, List.getElem?_append_left (by omega)]
    exact h1
theorem take_elem {X Y : List (List UInt8)} {n k : Nat} (h : X.take n = Y.take n) (hk : k < n) (h1 : k < X.length) (h2 : k < Y.length) : X[k] = Y[k] := by
  have e : (X.take n)[k]? = (Y.take n)[k]? := by rw [h]
  rw [List.getElem?_take_of_lt hk, List.getElem?_take_of_lt hk, List.getElem?_eq_getElem h1, List.getElem?_eq_getElem h2] at e
  exact Option.some.inj e
end Dp

set_option maxRecDepth 100000 in
set_option maxHeartbeats 1000000 in
theorem progParting (w0 w1 w : World) (v u : Value) (xs ys : List Value) (X Y : List (List UInt8)) (hv : Dp.Own w 35 v xs) (hu : Dp.Own w 35 u ys) (hX : Dp.TextsAt w0 w xs X) (hY : Dp.TextsAt w1 w ys Y) (n : Nat) (h1 : n < X.length) (h2 : n < Y.length) (heq : X.take n = Y.take n) (hne : X[n] ≠ Y[n]) (hXl : X.length ≤ 9223372036854775807) (hYl : Y.length ≤ 9223372036854775807) :
    Calls Tryz.prog 48 #[v, u] w fun e w' => (∃ a b, e = .returned (.tuple #[a, b, .bool true]) ∧ xs[n]? = some a ∧ ys[n]? = some b) ∧ Dp.Keeps (fun _ => False) w w' := by
  have HV := Hid.mk_ hv
  have HU := Hid.mk_ hu
  have HX := Hid.mk_ hX
  have HY := Hid.mk_ hY
  have HEQ := Hid.mk_ heq
  have HNE := Hid.mk_ hne
  obtain ⟨gx, cx, _, evx, _⟩ := Dp.texts_elem hv hX n h1
  obtain ⟨gy, cy, _, evy, _⟩ := Dp.texts_elem hu hY n h2
  subst evx
  subst evy
  clear hv hu hX hY heq hne
  go_enter Tryz.func48, Tryz.ntmps48
  go_wp2
  case inl =>
    go_loopw [13] (fun i wr => ∃ k : Nat, k ≤ n ∧ i = .int .i64 k ∧ Hid (Dp.Keeps (fun _ => False) w wr)) (fun i _ => n - (intOf i).toNat)
    case atStart => exact ⟨0, Nat.zero_le _, rfl, Dp.Keeps.refl _ _⟩
    case round =>
      obtain ⟨k, hk, rfl, HK⟩ := hrel
      have hkx : (k : Int) < (X.length : Int) := by omega
      have hky : (k : Int) < (Y.length : Int) := by omega
      obtain ⟨g1, c1, vx, e1, x1, cel1, own1⟩ := Dp.texts_elem HV.out HX.out k (by omega)
      obtain ⟨g2, c2, vy, e2, x2, cel2, own2⟩ := Dp.texts_elem HU.out HY.out k (by omega)
      simp only [Value.slice.injEq, Option.some.injEq, Addr.mk.injEq, and_true, true_and] at e1 e2
      obtain ⟨rfl, rfl⟩ := e1
      obtain ⟨rfl, rfl⟩ := e2
      have HO1 := Hid.mk_ own1
      have HO2 := Hid.mk_ own2
      have HX1 := Hid.mk_ x1
      have HX2 := Hid.mk_ x2
      have q1 : ∀ wx, Dp.Keeps (fun _ => False) wr wx → wx.cell? ⟨gx, k, none⟩ = some vx := fun wx kx => ((HK.out.trans kx).cell (p := ⟨gx, k, none⟩) (Dp.cell_lt cel1) (fun e => e)).trans cel1
      have q2 : ∀ wx, Dp.Keeps (fun _ => False) wr wx → wx.cell? ⟨gy, k, none⟩ = some vy := fun wx kx => ((HK.out.trans kx).cell (p := ⟨gy, k, none⟩) (Dp.cell_lt cel2) (fun e => e)).trans cel2
      have hS0 : Dp.Keeps (fun _ => False) wr wr.drew := (Dp.Keeps.refl _ _).drew
      clear own1 own2 x1 x2 cel1 cel2
      have HEQU : Hid (∀ wx, Dp.Keeps (fun _ => False) wr wx → Calls Tryz.prog 72 #[vx, vy] wx fun e w' => e = .returned (.bool (decide (X[k] = Y[k]))) ∧ w' = wx) := fun wx kx =>
        progEqual wx vx vy X[k] Y[k] (Dp.own_bytes (HO1.out.keep (HK.out.trans kx) (fun _ _ e => e))) (Dp.own_bytes (HO2.out.keep (HK.out.trans kx) (fun _ _ e => e)))
      go_wp2
      refine Dp.wp_region_L (fun wx => Dp.Keeps (fun _ => False) wr wx) 8 mixedP ?_
      refine' Dp.wpAnyL_take 0 rfl (by kernel_rfl) (fun _ _ _ h => h) (by rfl) ?hya0 hS0 ?resta0
      case hya0 => intro wx hSx; go_simp; try with_reducible rfl
      simp only [Act.put, List.getElem_toArray, List.getElem_cons_zero, List.setIfInBounds_toArray, List.set_cons_zero, List.set_cons_succ]
      refine' Dp.wpAnyL_take 1 rfl (by kernel_rfl) (fun _ _ _ h => h) (by rfl) ?hya1 hS0 ?resta1
      case hya1 => intro wx hSx; go_simp; try with_reducible rfl
      simp only [Act.put, List.getElem_toArray, List.getElem_cons_zero, List.getElem_cons_succ, List.setIfInBounds_toArray, List.set_cons_zero, List.set_cons_succ]
      refine' Dp.wpAnyL_take 2 rfl (by kernel_rfl) (fun _ _ _ h => h) (by rfl) ?hya2 hS0 ?resta2
      case hya2 => intro wx hSx; go_simp; try with_reducible rfl
      simp only [Act.put, List.getElem_toArray, List.getElem_cons_zero, List.getElem_cons_succ, List.setIfInBounds_toArray, List.set_cons_zero, List.set_cons_succ]
      refine' Dp.wpAnyL_take 3 rfl (by kernel_rfl) (fun _ _ _ h => h) (by rfl) ?hya3 hS0 ?resta3
      case hya3 => intro wx hSx; go_simp; try with_reducible rfl
      simp only [Act.put, List.getElem_toArray, List.getElem_cons_zero, List.getElem_cons_succ, List.setIfInBounds_toArray, List.set_cons_zero, List.set_cons_succ]
      refine' Dp.wpAnyL_take 4 rfl (by kernel_rfl) (fun _ _ _ h => h) (by rfl) ?hya4 hS0 ?resta4
      case hya4 => intro wx hSx; go_simp; try with_reducible rfl
      simp only [Act.put, List.getElem_toArray, List.getElem_cons_zero, List.getElem_cons_succ, List.setIfInBounds_toArray, List.set_cons_zero, List.set_cons_succ]
      refine' Dp.wpAnyL_take 5 rfl (by kernel_rfl) (fun _ _ _ h => h) (by rfl) ?hya5 hS0 ?resta5
      case hya5 => intro wx hSx; go_simp; try with_reducible rfl
      simp only [Act.put, List.getElem_toArray, List.getElem_cons_zero, List.getElem_cons_succ, List.setIfInBounds_toArray, List.set_cons_zero, List.set_cons_succ]
      refine' Dp.wpAnyL_take 6 rfl (by kernel_rfl) (fun _ _ _ h => h) (by rfl) ?hya6 hS0 ?resta6
      case hya6 => intro wx hSx; go_simp; try with_reducible rfl
      simp only [Act.put, List.getElem_toArray, List.getElem_cons_zero, List.getElem_cons_succ, List.setIfInBounds_toArray, List.set_cons_zero, List.set_cons_succ]
      refine' Dp.wpAnyL_take 7 rfl (by kernel_rfl) (fun _ _ _ h => h) (by rfl) ?hya7 hS0 ?resta7
      case hya7 => intro wx hSx; go_simp; try with_reducible rfl
      simp only [Act.put, List.getElem_toArray, List.getElem_cons_zero, List.getElem_cons_succ, List.setIfInBounds_toArray, List.set_cons_zero, List.set_cons_succ]
      refine Dp.wpAnyL_one 8 rfl (by kernel_rfl) (by rfl) (fun K hK => ?_)
      go_simp
      refine (HEQU.out _ hS0).mono ?_
      rintro e w2 ⟨rfl, rfl⟩
      refine hK _ _ ⟨fun h => absurd h (Nat.lt_irrefl _), ?_⟩
      clear hK K
      refine Dp.wpAnyL_rest (by kernel_rfl) ?_
      refine Dp.wpAny_tail 9 rfl (by kernel_rfl) ?_
      simp only [List.drop_succ_cons, List.drop_zero]
      by_cases hkn : k < n
      · have hd : decide (X[k] = Y[k]) = true := decide_eq_true (Dp.take_elem HEQ.out hkn (by omega) (by omega))
        rw [hd]
        have HK2 := Hid.mk_ (HK.out.trans hS0)
        clear hd q1 q2
        go_wp2
        go_roundw
        case rel => exact ⟨k + 1, by omega, by go_num, HK2⟩
        case measure => simp [intOf]; omega
      · obtain rfl : k = n := by omega
        have hd : decide (X[k] = Y[k]) = false := decide_eq_false HNE.out
        rw [hd]
        have HK2 := Hid.mk_ (HK.out.trans hS0)
        have q3 : ∀ wx, Dp.Keeps (fun _ => False) wr.drew wx → wx.cell? ⟨gx, k, none⟩ = some vx := fun wx kx => q1 wx (hS0.trans kx)
        have q4 : ∀ wx, Dp.Keeps (fun _ => False) wr.drew wx → wx.cell? ⟨gy, k, none⟩ = some vy := fun wx kx => q2 wx (hS0.trans kx)
        have hS1 : Dp.Keeps (fun _ => False) wr.drew wr.drew.drew := (Dp.Keeps.refl _ _).drew
        clear hd q1 q2
        go_wp2
        refine Dp.wp_region_L (fun wx => Dp.Keeps (fun _ => False) wr.drew wx) 11 mixedP ?_
        refine' Dp.wpAnyL_take 0 rfl (by kernel_rfl) (fun _ _ _ h => h) (by rfl) ?hyb0 hS1 ?restb0
        case hyb0 => intro wx hSx; go_simp; try with_reducible rfl
        simp only [Act.put, List.getElem_toArray, List.getElem_cons_zero, List.setIfInBounds_toArray, List.set_cons_zero, List.set_cons_succ]
        refine' Dp.wpAnyL_take 1 rfl (by kernel_rfl) (fun _ _ _ h => h) (by rfl) ?hyb1 hS1 ?restb1
        case hyb1 => intro wx hSx; go_simp; try with_reducible rfl
        simp only [Act.put, List.getElem_toArray, List.getElem_cons_zero, List.getElem_cons_succ, List.setIfInBounds_toArray, List.set_cons_zero, List.set_cons_succ]
        refine' Dp.wpAnyL_take 2 rfl (by kernel_rfl) (fun _ _ _ h => h) (by rfl) ?hyb2 hS1 ?restb2
        case hyb2 => intro wx hSx; go_simp; try with_reducible rfl
        simp only [Act.put, List.getElem_toArray, List.getElem_cons_zero, List.getElem_cons_succ, List.setIfInBounds_toArray, List.set_cons_zero, List.set_cons_succ]
        refine' Dp.wpAnyL_take 3 rfl (by kernel_rfl) (fun _ _ _ h => h) (by rfl) ?hyb3 hS1 ?restb3
        case hyb3 => intro wx hSx; go_simp; try with_reducible rfl
        simp only [Act.put, List.getElem_toArray, List.getElem_cons_zero, List.getElem_cons_succ, List.setIfInBounds_toArray, List.set_cons_zero, List.set_cons_succ]
        refine' Dp.wpAnyL_take 4 rfl (by kernel_rfl) (fun _ _ _ h => h) (by rfl) ?hyb4 hS1 ?restb4
        case hyb4 => intro wx hSx; go_simp; try with_reducible rfl
        simp only [Act.put, List.getElem_toArray, List.getElem_cons_zero, List.getElem_cons_succ, List.setIfInBounds_toArray, List.set_cons_zero, List.set_cons_succ]
        refine' Dp.wpAnyL_take 5 rfl (by kernel_rfl) (fun _ _ _ h => h) (by rfl) ?hyb5 hS1 ?restb5
        case hyb5 => intro wx hSx; go_simp; try with_reducible rfl
        simp only [Act.put, List.getElem_toArray, List.getElem_cons_zero, List.getElem_cons_succ, List.setIfInBounds_toArray, List.set_cons_zero, List.set_cons_succ]
        refine' Dp.wpAnyL_take 6 rfl (by kernel_rfl) (fun _ _ _ h => h) (by rfl) ?hyb6 hS1 ?restb6
        case hyb6 => intro wx hSx; go_simp; try with_reducible rfl
        simp only [Act.put, List.getElem_toArray, List.getElem_cons_zero, List.getElem_cons_succ, List.setIfInBounds_toArray, List.set_cons_zero, List.set_cons_succ]
        refine' Dp.wpAnyL_take 7 rfl (by kernel_rfl) (fun _ _ _ h => h) (by rfl) ?hyb7 hS1 ?restb7
        case hyb7 => intro wx hSx; go_simp; try with_reducible rfl
        simp only [Act.put, List.getElem_toArray, List.getElem_cons_zero, List.getElem_cons_succ, List.setIfInBounds_toArray, List.set_cons_zero, List.set_cons_succ]
        refine' Dp.wpAnyL_take 8 rfl (by kernel_rfl) (fun _ _ _ h => h) (by rfl) ?hyb8 hS1 ?restb8
        case hyb8 => intro wx hSx; go_simp; try with_reducible rfl
        simp only [Act.put, List.getElem_toArray, List.getElem_cons_zero, List.getElem_cons_succ, List.setIfInBounds_toArray, List.set_cons_zero, List.set_cons_succ]
        refine' Dp.wpAnyL_take 9 rfl (by kernel_rfl) (fun _ _ _ h => h) (by rfl) ?hyb9 hS1 ?restb9
        case hyb9 => intro wx hSx; go_simp; try with_reducible rfl
        simp only [Act.put, List.getElem_toArray, List.getElem_cons_zero, List.getElem_cons_succ, List.setIfInBounds_toArray, List.set_cons_zero, List.set_cons_succ]
        refine' Dp.wpAnyL_take 10 rfl (by kernel_rfl) (fun _ _ _ h => h) (by rfl) ?hyb10 hS1 ?restb10
        case hyb10 => intro wx hSx; go_simp; try with_reducible rfl
        simp only [Act.put, List.getElem_toArray, List.getElem_cons_zero, List.getElem_cons_succ, List.setIfInBounds_toArray, List.set_cons_zero, List.set_cons_succ]
        refine Dp.wpAnyL_done (by kernel_rfl) ?_ _
        go_wp2
        go_ret3
        exact ⟨⟨vx, vy, rfl, HX1.out, HX2.out⟩, HK2.out.trans hS1⟩
  case inr =>
    go_loopw [13] (fun i wr => ∃ k : Nat, k ≤ n ∧ i = .int .i64 k ∧ Hid (Dp.Keeps (fun _ => False) w wr)) (fun i _ => n - (intOf i).toNat)
    case atStart => exact ⟨0, Nat.zero_le _, rfl, Dp.Keeps.refl _ _⟩
    case round =>
      obtain ⟨k, hk, rfl, HK⟩ := hrel
      have hkx : (k : Int) < (X.length : Int) := by omega
      have hky : (k : Int) < (Y.length : Int) := by omega
      obtain ⟨g1, c1, vx, e1, x1, cel1, own1⟩ := Dp.texts_elem HV.out HX.out k (by omega)
      obtain ⟨g2, c2, vy, e2, x2, cel2, own2⟩ := Dp.texts_elem HU.out HY.out k (by omega)
      simp only [Value.slice.injEq, Option.some.injEq, Addr.mk.injEq, and_true, true_and] at e1 e2
      obtain ⟨rfl, rfl⟩ := e1
      obtain ⟨rfl, rfl⟩ := e2
      have HO1 := Hid.mk_ own1
      have HO2 := Hid.mk_ own2
      have HX1 := Hid.mk_ x1
      have HX2 := Hid.mk_ x2
      have q1 : ∀ wx, Dp.Keeps (fun _ => False) wr wx → wx.cell? ⟨gx, k, none⟩ = some vx := fun wx kx => ((HK.out.trans kx).cell (p := ⟨gx, k, none⟩) (Dp.cell_lt cel1) (fun e => e)).trans cel1
      have q2 : ∀ wx, Dp.Keeps (fun _ => False) wr wx → wx.cell? ⟨gy, k, none⟩ = some vy := fun wx kx => ((HK.out.trans kx).cell (p := ⟨gy, k, none⟩) (Dp.cell_lt cel2) (fun e => e)).trans cel2
      have hS0 : Dp.Keeps (fun _ => False) wr wr.drew := (Dp.Keeps.refl _ _).drew
      clear own1 own2 x1 x2 cel1 cel2
      have HEQU : Hid (∀ wx, Dp.Keeps (fun _ => False) wr wx → Calls Tryz.prog 72 #[vx, vy] wx fun e w' => e = .returned (.bool (decide (X[k] = Y[k]))) ∧ w' = wx) := fun wx kx =>
        progEqual wx vx vy X[k] Y[k] (Dp.own_bytes (HO1.out.keep (HK.out.trans kx) (fun _ _ e => e))) (Dp.own_bytes (HO2.out.keep (HK.out.trans kx) (fun _ _ e => e)))
      go_wp2
      refine Dp.wp_region_L (fun wx => Dp.Keeps (fun _ => False) wr wx) 8 mixedP ?_
      refine' Dp.wpAnyL_take 0 rfl (by kernel_rfl) (fun _ _ _ h => h) (by rfl) ?hyp0 hS0 ?restp0
      case hyp0 => intro wx hSx; go_simp; try with_reducible rfl
      simp only [Act.put, List.getElem_toArray, List.getElem_cons_zero, List.setIfInBounds_toArray, List.set_cons_zero, List.set_cons_succ]
      refine' Dp.wpAnyL_take 1 rfl (by kernel_rfl) (fun _ _ _ h => h) (by rfl) ?hyp1 hS0 ?restp1
      case hyp1 => intro wx hSx; go_simp; try with_reducible rfl
      simp only [Act.put, List.getElem_toArray, List.getElem_cons_zero, List.getElem_cons_succ, List.setIfInBounds_toArray, List.set_cons_zero, List.set_cons_succ]
      refine' Dp.wpAnyL_take 2 rfl (by kernel_rfl) (fun _ _ _ h => h) (by rfl) ?hyp2 hS0 ?restp2
      case hyp2 => intro wx hSx; go_simp; try with_reducible rfl
      simp only [Act.put, List.getElem_toArray, List.getElem_cons_zero, List.getElem_cons_succ, List.setIfInBounds_toArray, List.set_cons_zero, List.set_cons_succ]
      refine' Dp.wpAnyL_take 3 rfl (by kernel_rfl) (fun _ _ _ h => h) (by rfl) ?hyp3 hS0 ?restp3
      case hyp3 => intro wx hSx; go_simp; try with_reducible rfl
      simp only [Act.put, List.getElem_toArray, List.getElem_cons_zero, List.getElem_cons_succ, List.setIfInBounds_toArray, List.set_cons_zero, List.set_cons_succ]
      refine' Dp.wpAnyL_take 4 rfl (by kernel_rfl) (fun _ _ _ h => h) (by rfl) ?hyp4 hS0 ?restp4
      case hyp4 => intro wx hSx; go_simp; try with_reducible rfl
      simp only [Act.put, List.getElem_toArray, List.getElem_cons_zero, List.getElem_cons_succ, List.setIfInBounds_toArray, List.set_cons_zero, List.set_cons_succ]
      refine' Dp.wpAnyL_take 5 rfl (by kernel_rfl) (fun _ _ _ h => h) (by rfl) ?hyp5 hS0 ?restp5
      case hyp5 => intro wx hSx; go_simp; try with_reducible rfl
      simp only [Act.put, List.getElem_toArray, List.getElem_cons_zero, List.getElem_cons_succ, List.setIfInBounds_toArray, List.set_cons_zero, List.set_cons_succ]
      refine' Dp.wpAnyL_take 6 rfl (by kernel_rfl) (fun _ _ _ h => h) (by rfl) ?hyp6 hS0 ?restp6
      case hyp6 => intro wx hSx; go_simp; try with_reducible rfl
      simp only [Act.put, List.getElem_toArray, List.getElem_cons_zero, List.getElem_cons_succ, List.setIfInBounds_toArray, List.set_cons_zero, List.set_cons_succ]
      refine' Dp.wpAnyL_take 7 rfl (by kernel_rfl) (fun _ _ _ h => h) (by rfl) ?hyp7 hS0 ?restp7
      case hyp7 => intro wx hSx; go_simp; try with_reducible rfl
      simp only [Act.put, List.getElem_toArray, List.getElem_cons_zero, List.getElem_cons_succ, List.setIfInBounds_toArray, List.set_cons_zero, List.set_cons_succ]
      refine Dp.wpAnyL_one 8 rfl (by kernel_rfl) (by rfl) (fun K hK => ?_)
      go_simp
      refine (HEQU.out _ hS0).mono ?_
      rintro e w2 ⟨rfl, rfl⟩
      refine hK _ _ ⟨fun h => absurd h (Nat.lt_irrefl _), ?_⟩
      clear hK K
      refine Dp.wpAnyL_rest (by kernel_rfl) ?_
      refine Dp.wpAny_tail 9 rfl (by kernel_rfl) ?_
      simp only [List.drop_succ_cons, List.drop_zero]
      by_cases hkn : k < n
      · have hd : decide (X[k] = Y[k]) = true := decide_eq_true (Dp.take_elem HEQ.out hkn (by omega) (by omega))
        rw [hd]
        have HK2 := Hid.mk_ (HK.out.trans hS0)
        clear hd q1 q2
        go_wp2
        go_roundw
        case rel => exact ⟨k + 1, by omega, by go_num, HK2⟩
        case measure => simp [intOf]; omega
      · obtain rfl : k = n := by omega
        have hd : decide (X[k] = Y[k]) = false := decide_eq_false HNE.out
        rw [hd]
        have HK2 := Hid.mk_ (HK.out.trans hS0)
        have q3 : ∀ wx, Dp.Keeps (fun _ => False) wr.drew wx → wx.cell? ⟨gx, k, none⟩ = some vx := fun wx kx => q1 wx (hS0.trans kx)
        have q4 : ∀ wx, Dp.Keeps (fun _ => False) wr.drew wx → wx.cell? ⟨gy, k, none⟩ = some vy := fun wx kx => q2 wx (hS0.trans kx)
        have hS1 : Dp.Keeps (fun _ => False) wr.drew wr.drew.drew := (Dp.Keeps.refl _ _).drew
        clear hd q1 q2
        go_wp2
        refine Dp.wp_region_L (fun wx => Dp.Keeps (fun _ => False) wr.drew wx) 11 mixedP ?_
        refine' Dp.wpAnyL_take 0 rfl (by kernel_rfl) (fun _ _ _ h => h) (by rfl) ?hyq0 hS1 ?restq0
        case hyq0 => intro wx hSx; go_simp; try with_reducible rfl
        simp only [Act.put, List.getElem_toArray, List.getElem_cons_zero, List.setIfInBounds_toArray, List.set_cons_zero, List.set_cons_succ]
        refine' Dp.wpAnyL_take 1 rfl (by kernel_rfl) (fun _ _ _ h => h) (by rfl) ?hyq1 hS1 ?restq1
        case hyq1 => intro wx hSx; go_simp; try with_reducible rfl
        simp only [Act.put, List.getElem_toArray, List.getElem_cons_zero, List.getElem_cons_succ, List.setIfInBounds_toArray, List.set_cons_zero, List.set_cons_succ]
        refine' Dp.wpAnyL_take 2 rfl (by kernel_rfl) (fun _ _ _ h => h) (by rfl) ?hyq2 hS1 ?restq2
        case hyq2 => intro wx hSx; go_simp; try with_reducible rfl
        simp only [Act.put, List.getElem_toArray, List.getElem_cons_zero, List.getElem_cons_succ, List.setIfInBounds_toArray, List.set_cons_zero, List.set_cons_succ]
        refine' Dp.wpAnyL_take 3 rfl (by kernel_rfl) (fun _ _ _ h => h) (by rfl) ?hyq3 hS1 ?restq3
        case hyq3 => intro wx hSx; go_simp; try with_reducible rfl
        simp only [Act.put, List.getElem_toArray, List.getElem_cons_zero, List.getElem_cons_succ, List.setIfInBounds_toArray, List.set_cons_zero, List.set_cons_succ]
        refine' Dp.wpAnyL_take 4 rfl (by kernel_rfl) (fun _ _ _ h => h) (by rfl) ?hyq4 hS1 ?restq4
        case hyq4 => intro wx hSx; go_simp; try with_reducible rfl
        simp only [Act.put, List.getElem_toArray, List.getElem_cons_zero, List.getElem_cons_succ, List.setIfInBounds_toArray, List.set_cons_zero, List.set_cons_succ]
        refine' Dp.wpAnyL_take 5 rfl (by kernel_rfl) (fun _ _ _ h => h) (by rfl) ?hyq5 hS1 ?restq5
        case hyq5 => intro wx hSx; go_simp; try with_reducible rfl
        simp only [Act.put, List.getElem_toArray, List.getElem_cons_zero, List.getElem_cons_succ, List.setIfInBounds_toArray, List.set_cons_zero, List.set_cons_succ]
        refine' Dp.wpAnyL_take 6 rfl (by kernel_rfl) (fun _ _ _ h => h) (by rfl) ?hyq6 hS1 ?restq6
        case hyq6 => intro wx hSx; go_simp; try with_reducible rfl
        simp only [Act.put, List.getElem_toArray, List.getElem_cons_zero, List.getElem_cons_succ, List.setIfInBounds_toArray, List.set_cons_zero, List.set_cons_succ]
        refine' Dp.wpAnyL_take 7 rfl (by kernel_rfl) (fun _ _ _ h => h) (by rfl) ?hyq7 hS1 ?restq7
        case hyq7 => intro wx hSx; go_simp; try with_reducible rfl
        simp only [Act.put, List.getElem_toArray, List.getElem_cons_zero, List.getElem_cons_succ, List.setIfInBounds_toArray, List.set_cons_zero, List.set_cons_succ]
        refine' Dp.wpAnyL_take 8 rfl (by kernel_rfl) (fun _ _ _ h => h) (by rfl) ?hyq8 hS1 ?restq8
        case hyq8 => intro wx hSx; go_simp; try with_reducible rfl
        simp only [Act.put, List.getElem_toArray, List.getElem_cons_zero, List.getElem_cons_succ, List.setIfInBounds_toArray, List.set_cons_zero, List.set_cons_succ]
        refine' Dp.wpAnyL_take 9 rfl (by kernel_rfl) (fun _ _ _ h => h) (by rfl) ?hyq9 hS1 ?restq9
        case hyq9 => intro wx hSx; go_simp; try with_reducible rfl
        simp only [Act.put, List.getElem_toArray, List.getElem_cons_zero, List.getElem_cons_succ, List.setIfInBounds_toArray, List.set_cons_zero, List.set_cons_succ]
        refine' Dp.wpAnyL_take 10 rfl (by kernel_rfl) (fun _ _ _ h => h) (by rfl) ?hyq10 hS1 ?restq10
        case hyq10 => intro wx hSx; go_simp; try with_reducible rfl
        simp only [Act.put, List.getElem_toArray, List.getElem_cons_zero, List.getElem_cons_succ, List.setIfInBounds_toArray, List.set_cons_zero, List.set_cons_succ]
        refine Dp.wpAnyL_done (by kernel_rfl) ?_ _
        go_wp2
        go_ret3
        exact ⟨⟨vx, vy, rfl, HX1.out, HX2.out⟩, HK2.out.trans hS1⟩
end Go.Proofs.YtdipojfngdceoabGreatDoor
