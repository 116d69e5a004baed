/- Steps on the way: LawFirst, LawRuns. -/
import Derived.Test.YtdipojfngdceoaaGreatDoorPack26
import Derived.Test.YtdipojfngdceoaaGreatDoorPack27
/- The first machine: its answers are fixed. -/
namespace Go.Proofs.YtdipojfngdceoaaGreatDoor
open Go.RowKit

theorem lawOpens (w : World) (W : Nat) (vW vT : Value) (words : List Int) (srcs : List (List UInt8)) (hW : Dp.Ints w vW words) (hT : Dp.Texts w vT srcs) (h64 : ∀ x ∈ words, -9223372036854775808 ≤ x ∧ x ≤ 9223372036854775807)
    (hR : Dp.Row w W 32 [Dp.nilV, Dp.nilV, Dp.nilV, Dp.nilV, Dp.nilV, Dp.nilV]) :
    Calls Tryz.prog 13 #[.pointer (some ⟨W, 0, none⟩), .agg #[vW, vT]] w fun e w' => e = .returned (.bool true) ∧ Dp.Keeps (fun q => q = W) w w' ∧ ((Dp.newOk words srcs = false ∧ ∃ v2 v3 v5, ∀ w'', Dp.Keeps (fun _ => False) w' w'' → Dp.KeptOk w'' W Dp.nilV Dp.nilV v2 v3 Dp.nilV v5) ∨ (Dp.newOk words srcs = true ∧ ∃ s b p g G vs vr sg scap v2 v3 v5, Dp.Side w' s b p g G vs vr (Dp.newMach words srcs) ∧ (∀ w'', Dp.Keeps (Dp.Foot b p g) w' w'' → Dp.KeptOk w'' W (.slice (some ⟨sg, 0, none⟩) 1 scap) Dp.nilV v2 v3 Dp.nilV v5 ∧ w''.cell? ⟨sg, 0, none⟩ = some (.pointer (some ⟨s, 0, none⟩))) ∧ w.heap.size ≤ b ∧ w.heap.size ≤ p ∧ w.heap.size ≤ g)) := by
  have hW' := hW
  obtain ⟨wb, wo, wad, wcap, rfl, _⟩ := hW'
  cases wad with
  | none => exact lawOpensN w W _ vT words srcs hW hT h64 hR (fun ad n c e => by simp only [Value.slice.injEq] at e; rw [← e.1]; rfl)
  | some a => exact lawOpensS w W _ vT words srcs hW hT h64 hR (fun ad n c e => by simp only [Value.slice.injEq] at e; rw [← e.1]; rfl)

namespace Dp
def firstWordsL : List Int := [746586117, 8388608]
theorem first_ok : newOk firstWordsL [] = true := by decide +kernel
theorem first_one : (newMach firstWordsL []).step.2 = 0 := by decide +kernel
theorem first_two : (newMach firstWordsL []).step.1.step.2 = 0 := by decide +kernel
theorem first_end : (newMach firstWordsL []).step.1.step.1.s = ⟨1, 2, 5, true, [0, 5, 0, 0, 0, 0, 0, 0]⟩ := by kernel_rfl
end Dp

set_option maxRecDepth 100000 in
set_option maxHeartbeats 1000000 in
theorem lawFirst (w : World) : Calls Tryz.prog 9 #[] w fun e w' => e = .returned (.bool true) ∧ Dp.Keeps (fun _ => False) w w' := by
  go_enter Tryz.func9, Tryz.ntmps9
  go_wp2_with (refine Dp.wpList_box_row rfl 32 _ rfl [Dp.nilV, Dp.nilV, Dp.nilV, Dp.nilV, Dp.nilV, Dp.nilV] rfl ?_)
  intro w1 r1 z1 k1
  have k2 := (Dp.Keeps.refl (fun _ => False) w1).alloc (.cells #[.int .i64 746586117, .int .i64 8388608] 3)
  have hI : Dp.Ints (w1.alloc (.cells #[.int .i64 746586117, .int .i64 8388608] 3)) (.slice (some ⟨w1.heap.size, 0, none⟩) 2 2) Dp.firstWordsL := by
    have hr := Dp.Row.allocNew w1 3 [.int .i64 746586117, .int .i64 8388608]
    refine ⟨w1.heap.size, 0, some ⟨w1.heap.size, 0, none⟩, 2, rfl, by simp [Dp.firstWordsL], fun _ => ⟨rfl, hr.lt⟩, fun i hi => ?_⟩
    have hi' : i < 2 := hi
    rcases (by omega : i = 0 ∨ i = 1) with rfl | rfl
    · exact hr.cell 0
    · exact hr.cell 1
  rw [z1] at hI
  have hT : Dp.Texts (w1.alloc (.cells #[.int .i64 746586117, .int .i64 8388608] 3)) (.slice none 0 0) [] := ⟨0, 0, none, 0, rfl, by simp, fun e => absurd rfl e, fun i hi => absurd hi (by simp)⟩
  have hR := r1.keep k2 (fun e => e)
  have HIT := Hid.mk_ (And.intro hI (And.intro hT hR))
  clear hI hT hR r1
  go_wp2_with fail
  refine (lawOpens _ w.heap.size _ _ Dp.firstWordsL [] HIT.out.1 HIT.out.2.1 (fun x hx => by simp [Dp.firstWordsL] at hx; rcases hx with rfl | rfl <;> decide) HIT.out.2.2).mono ?_
  rintro e w3 ⟨rfl, k3, hcase⟩
  obtain ⟨s, b, p, g, G, vs, vr, sg, scap, v2, v3, v5, hsd, hkp, hb, _, _⟩ : ∃ s b p g G vs vr sg scap v2 v3 v5, Dp.Side w3 s b p g G vs vr (Dp.newMach Dp.firstWordsL []) ∧ (∀ w'', Dp.Keeps (Dp.Foot b p g) w3 w'' → Dp.KeptOk w'' w.heap.size (.slice (some ⟨sg, 0, none⟩) 1 scap) Dp.nilV v2 v3 Dp.nilV v5 ∧ w''.cell? ⟨sg, 0, none⟩ = some (.pointer (some ⟨s, 0, none⟩))) ∧ (w1.alloc (.cells #[.int .i64 746586117, .int .i64 8388608] 3)).heap.size ≤ b ∧ (w1.alloc (.cells #[.int .i64 746586117, .int .i64 8388608] 3)).heap.size ≤ p ∧ (w1.alloc (.cells #[.int .i64 746586117, .int .i64 8388608] 3)).heap.size ≤ g := by
    rcases hcase with ⟨h, _⟩ | ⟨_, h⟩
    · rw [Dp.first_ok] at h; exact absurd h (by decide)
    · exact h
  have hb' : w.heap.size ≤ b := by simp at hb; omega
  have k03 : Dp.Keeps (fun _ => False) w w3 := (k1.trans k2).next k3 (fun q hq e => by omega)
  obtain ⟨hko, hsc⟩ := hkp w3 (Dp.Keeps.refl _ _)
  have c0 := hko.row.cell 0
  simp only [List.getElem?_cons_zero] at c0
  obtain ⟨d0, _⟩ := hsd.cells
  have HPM := Hid.mk_ hsd.prog
  clear hkp hko hsd hcase hb HIT k1 k2 k3
  go_wp2_with fail
  refine (progMStep w3 b G vs _ HPM.out).mono ?_
  rintro e w4 ⟨rfl, k4, p4⟩
  rw [Dp.first_one]
  have HP4 := Hid.mk_ p4
  clear c0 hsc d0 p4
  go_wp2_with fail
  refine (progMStep w4 b G vs _ HP4.out).mono ?_
  rintro e w5 ⟨rfl, k5, p5⟩
  rw [Dp.first_two]
  have HP5 := Hid.mk_ p5
  clear p5
  go_wp2_with fail
  refine (progMLook w5 b G vs _ HP5.out).mono ?_
  rintro e w6 ⟨rfl, k6⟩
  rw [Dp.first_end]
  have HK6 : Hid (Dp.Keeps (fun _ => False) w w6) := ((k03.next k4 (fun q hq e => by omega)).next k5 (fun q hq e => by omega)).trans k6
  obtain ⟨R, hR⟩ : ∃ R : Int, R = Dp.root (Dp.newMach Dp.firstWordsL []).step.1.step.1.cells := ⟨_, rfl⟩
  rw [← hR]
  clear hR k03 k4 k5 k6
  go_wp2_with (refine Dp.wpList_alloc_row rfl 74 rfl _ zeroState ?_)
  intro w7 r7 z7 k7
  have HR7 := Hid.mk_ (Dp.row_nil r7)
  go_wp2_with (refine Dp.wpList_store_in rfl 74 _ _ rfl w6.heap.size 0 rfl (Dp.stCells ⟨1, 2, 5, true, [0, 5, 0, 0, 0, 0, 0, 0]⟩ R) rfl 74 [] _ [] HR7.out rfl rfl (by rw [sizeState]; rfl) (Dp.stCells_one _ _) ?_)
  intro w8 r8 z8 k8
  have r8' : Dp.Row w8 w6.heap.size 74 (Dp.stCells ⟨1, 2, 5, true, [0, 5, 0, 0, 0, 0, 0, 0]⟩ R) := by simpa using r8
  have a1 : w8.cell? ⟨w6.heap.size, 1, none⟩ = some (.int .i64 2) := r8'.cell 1
  have a2 : w8.cell? ⟨w6.heap.size, 2, none⟩ = some (.int .i64 5) := r8'.cell 2
  have a3 : w8.cell? ⟨w6.heap.size, 3, none⟩ = some (.bool true) := r8'.cell 3
  have a5 : w8.cell? ⟨w6.heap.size, 5, none⟩ = some (.int .i64 5) := r8'.cell 5
  have HK8 : Hid (Dp.Keeps (fun _ => False) w w8) := HK6.out.trans (k7.next k8 (fun k hk e => by omega))
  clear r7 r8 r8' HR7 k7 k8 z7 z8
  go_wp2
  go_ret
  exact ⟨rfl, HK8.out⟩

end Go.Proofs.YtdipojfngdceoaaGreatDoor

/- Any machine, any list of calls without proofs. -/
namespace Go.Proofs.YtdipojfngdceoaaGreatDoor
open Go.RowKit

set_option maxRecDepth 100000 in
set_option maxHeartbeats 1000000 in
/-- Where no machine could be made, playing does nothing. -/
theorem lawPlay0 (w : World) (W : Nat) (v2 v3 v5 : Value) (hL : ∀ w', Dp.Keeps (fun _ => False) w w' → Dp.KeptOk w' W Dp.nilV Dp.nilV v2 v3 Dp.nilV v5) (oad : Option Addr) (ol ocap : Nat) (most : Int) :
    Calls Tryz.prog 14 #[.pointer (some ⟨W, 0, none⟩), .slice oad ol ocap, .int .i64 most] w fun e w' => e = .returned (.bool true) ∧ Dp.Keeps (fun _ => False) w w' := by
  have HK := Hid.mk_ hL
  have cw0 := (hL w (Dp.Keeps.refl _ _)).row.cell 0
  simp only [List.getElem?_cons_zero, Dp.nilV] at cw0
  clear hL
  go_enter Tryz.func14, Tryz.ntmps14
  go_wp2
  clear cw0
  go_loopw [8, 9, 10, 11, 12] (fun i _ _ _ _ wr => i = .int .i64 0 ∧ Dp.Keeps (fun _ => False) w wr) (fun _ _ _ _ _ _ => 0)
  case atStart => exact ⟨rfl, Dp.Keeps.refl _ _⟩
  case round =>
    obtain ⟨rfl, kk⟩ := hrel
    by_cases hlt : 0 < ol
    · go_wp2
      go_loopw [13, 14] (fun i _ wr => i = .int .i64 0 ∧ Dp.Keeps (fun _ => False) w wr) (fun _ _ _ => 0)
      case atStart => exact ⟨rfl, kk⟩
      case round =>
        obtain ⟨rfl, kk⟩ := hrel
        have HK3 := Hid.mk_ (HK.out wr kk)
        go_wp2_with fail
        refine (lawKept wr W _ _ v2 v3 _ v5 HK3.out.row HK3.out.l1 HK3.out.l2 HK3.out.l3 HK3.out.l4 HK3.out.l5).mono ?_
        rintro e w4 ⟨rfl, nn, rfl⟩
        have HK4 := Hid.mk_ (kk.drewN nn)
        go_wp2
        go_ret
        exact ⟨rfl, HK4.out⟩
    · go_wp2
      go_loopw [13, 14] (fun i _ wr => i = .int .i64 0 ∧ Dp.Keeps (fun _ => False) w wr) (fun _ _ _ => 0)
      case atStart => exact ⟨rfl, kk⟩
      case round =>
        obtain ⟨rfl, kk⟩ := hrel
        have HK3 := Hid.mk_ (HK.out wr kk)
        go_wp2_with fail
        refine (lawKept wr W _ _ v2 v3 _ v5 HK3.out.row HK3.out.l1 HK3.out.l2 HK3.out.l3 HK3.out.l4 HK3.out.l5).mono ?_
        rintro e w4 ⟨rfl, nn, rfl⟩
        have HK4 := Hid.mk_ (kk.drewN nn)
        go_wp2
        go_ret
        exact ⟨rfl, HK4.out⟩

theorem sizeMade : (Tryz.prog.info? 36).map (·.size) = some 2 := by kernel_rfl
set_option maxRecDepth 100000 in
set_option maxHeartbeats 1000000 in
theorem lawRuns (w : World) (vW vT : Value) (words : List Int) (srcs : List (List UInt8)) (hW : Dp.Ints w vW words) (hT : Dp.Texts w vT srcs) (h64 : ∀ x ∈ words, -9223372036854775808 ≤ x ∧ x ≤ 9223372036854775807)
    (ops : List Dp.SOp) (ob oo ocap : Nat) (oad : Option Addr) (hoad : ops ≠ [] → oad = some ⟨ob, oo, none⟩ ∧ ob < w.heap.size) (hol : ops.length ≤ 16777216)
    (hA : ∀ x ∈ ops, x.vA.oneCell' = true) (hN : ∀ x ∈ ops, -9223372036854775808 ≤ x.kind ∧ x.kind ≤ 9223372036854775807)
    (hO : ∀ i (hi : i < ops.length), ∀ j, j < 5 → w.cell? ⟨ob, oo + i * 5 + j, none⟩ = ops[i].cells[j]?) :
    Calls Tryz.prog 4 #[.agg #[vW, vT], .slice oad ops.length ocap] w fun e w' => e = .returned (.bool true) ∧ Dp.Keeps (fun _ => False) w w' := by
  have HW := Hid.mk_ hW
  have HT := Hid.mk_ hT
  have H64 := Hid.mk_ h64
  have HA := Hid.mk_ hA
  have HN := Hid.mk_ hN
  have HO := Hid.mk_ hO
  have HOA := Hid.mk_ hoad
  obtain ⟨_, _, wad, wcap, rfl, _⟩ := hW
  obtain ⟨_, _, tad, tcap, rfl, _⟩ := hT
  clear h64 hA hN hO hoad
  go_enter Tryz.func4, Tryz.ntmps4
  go_wp2_with (refine Dp.wpList_box_row rfl 36 _ rfl [.slice wad words.length wcap, .slice tad srcs.length tcap] rfl ?_)
  intro w1 r1 z1 k1
  have HR1 := Hid.mk_ r1
  clear r1
  go_wp2_with (refine Dp.wpList_box_row rfl 32 _ rfl [Dp.nilV, Dp.nilV, Dp.nilV, Dp.nilV, Dp.nilV, Dp.nilV] rfl ?_)
  intro w2 r2 z2 k2
  have HR2 := Hid.mk_ r2
  clear r2
  go_wp2_with fail
  refine (lawFirst w2).mono ?_
  rintro e w3 ⟨rfl, k3⟩
  have kk3 : Dp.Keeps (fun _ => False) w w3 := (k1.trans k2).trans k3
  have HR3 := Hid.mk_ (Dp.row_nil (HR1.out.keep (k2.trans k3) (fun e => e)))
  have HI3 := Hid.mk_ (HW.out.still kk3)
  have HT3 := Hid.mk_ (HT.out.still kk3)
  have HWR := Hid.mk_ (HR2.out.keep k3 (fun e => e))
  go_wp2_with (refine Dp.wpList_load_in rfl 36 _ rfl w.heap.size 0 rfl 36 [] _ _ HR3.out rfl _ Tryz.underlying36 rfl sizeMade ?_; intro _)
  have hsz := kk3.size
  refine (lawOpens w3 (w.heap.size + 1) _ _ words srcs HI3.out HT3.out H64.out HWR.out).mono ?_
  rintro e w7 ⟨rfl, k7, hcase⟩
  have HK7 : Hid (Dp.Keeps (fun _ => False) w w7) := kk3.next k7 (fun q hq e => by omega)
  clear HR1 HR2 HR3 HI3 HT3 HWR kk3 k1 k2 k3 k7 z1 z2
  rcases hcase with ⟨_, v2, v3, v5, hk0⟩ | ⟨_, s, b, p, g, G, vs, vr, sg, scap, v2, v3, v5, hsd, hkp, hb, hp, hg⟩
  · have HK0 := Hid.mk_ hk0
    clear hk0
    go_wp2_with fail
    refine (lawPlay0 w7 (w.heap.size + 1) v2 v3 v5 HK0.out oad ops.length ocap 5).mono ?_
    rintro e w8 ⟨rfl, k8⟩
    have HK8 := Hid.mk_ (HK7.out.trans k8)
    go_wp2
    go_ret
    exact ⟨rfl, HK8.out⟩
  · have HBB : Hid (w.heap.size ≤ b ∧ w.heap.size ≤ p ∧ w.heap.size ≤ g) := by unfold Hid; omega
    have HKP := Hid.mk_ hkp
    have HSD := Hid.mk_ hsd
    have HO2 : Hid (∀ w', Dp.Keeps (Dp.Foot b p g) w7 w' → ∀ i (hi : i < ops.length), ∀ j, j < 5 → w'.cell? ⟨ob, oo + i * 5 + j, none⟩ = ops[i].cells[j]?) := by
      intro w' k' i hi j hj
      have hlt := (HOA.out (by intro e; simp [e] at hi)).2
      have hbb := HBB.out
      have h7 := HK7.out.size
      rw [k'.cell (p := ⟨ob, oo + i * 5 + j, none⟩) (show ob < w7.heap.size by omega) (by simp only [Dp.Foot]; omega), HK7.out.cell (p := ⟨ob, oo + i * 5 + j, none⟩) hlt (fun e => e)]
      exact HO.out i hi j hj
    clear hkp hsd hb hp hg
    go_wp2_with fail
    refine (lawPlay w7 (w.heap.size + 1) s b p g G vs vr _ HSD.out sg 0 scap _ _ _ _ _ HKP.out ops ob oo ocap oad (fun e => (HOA.out e).1) hol HA.out HN.out HO2.out).mono ?_
    rintro e w8 ⟨rfl, k8⟩
    have HK8 : Hid (Dp.Keeps (fun _ => False) w w8) := HK7.out.next k8 (fun q hq e => by have := HBB.out; simp only [Dp.Foot] at e; omega)
    go_wp2
    go_ret
    exact ⟨rfl, HK8.out⟩

end Go.Proofs.YtdipojfngdceoaaGreatDoor
