/- Steps on the way: KeepHonest. -/
import Derived.Test.YtdipojfngdceoaaGreatDoorPack92
/- One who says the right stamps is upheld: the walk. -/
namespace Go.Proofs.YtdipojfngdceoaaGreatDoor
open Go.RowKit

theorem infoBool2 : (Tryz.prog.info? 4).map (fun i => (i.zero, i.size, i.bytes)) = some (some (.bool false), 1, 1) := by kernel_rfl

set_option maxRecDepth 100000 in
set_option maxHeartbeats 4000000 in
theorem keepHonest (w : World) (eb : Addr) (v vt vl : Value) (raw : List Int) (texts : List (List UInt8)) (ahead depth : Int) (lefts : List Bool) (he : Dp.ErrAt w eb) (hW : Dp.IntsW w v raw) (h64 : ∀ x ∈ raw, -9223372036854775808 ≤ x ∧ x ≤ 9223372036854775807) (hT : Dp.TextsW w vt texts) (ha : -9223372036854775808 ≤ ahead ∧ ahead ≤ 9223372036854775807) (hdp : -9223372036854775808 ≤ depth ∧ depth ≤ 9223372036854775807) (hL : Dp.BoolsW w vl lefts) :
    Calls Tryz.prog 8 #[v, vt, .int .i64 ahead, .int .i64 depth, vl] w fun e w' => e = .returned (.bool true) ∧ Dp.Keeps (fun _ => False) w w' := by
  obtain ⟨lb, lo, lad, lcap, rfl, hll, hlne, hlc⟩ := hL
  have hll' : lefts.length ≤ 9223372036854775807 := by unfold maxLen at hll; omega
  have HLC := Hid.mk_ hlc
  have HLN := Hid.mk_ hlne
  have HE := Hid.mk_ he
  have HWI := Hid.mk_ hW
  have HTI := Hid.mk_ hT
  have H64 := Hid.mk_ h64
  clear he hll hlc hlne hW hT h64
  go_enter Tryz.func8, Tryz.ntmps8
  go_wp2_with fail
  refine (keepSure w eb HE.out).mono ?_
  rintro e w1 ⟨rfl, k1⟩
  have HK := Hid.mk_ k1
  clear k1
  go_wp2_with fail
  refine (keepPick depth 8 _ hdp (by omega) (by omega)).mono ?_
  rintro e w2 ⟨rfl, rfl⟩
  obtain ⟨D, hDe, hD⟩ : ∃ D : Nat, Dp.pickOf depth 8 = (D : Int) ∧ D ≤ 7 := ⟨(Dp.pickOf depth 8).toNat, by have := Dp.pickOf_bd depth 8 (by omega); omega, by have := Dp.pickOf_bd depth 8 (by omega); omega⟩
  rw [hDe]
  clear hDe hdp
  have hD0 : (0 : Int) ≤ D := by omega
  have hD7 : (D : Int) ≤ 7 := by omega
  go_wp2_with fail
  refine (keepOpened w2 v vt raw texts ahead (HWI.out.still HK.out) H64.out (HTI.out.still HK.out) ha).mono ?_
  rintro e w3 ⟨⟨b, vs, G, rfl, hb, hG, hM⟩, k3⟩
  have HM := Hid.mk_ hM
  have hbw : w.heap.size ≤ b := by have := HK.out.size; omega
  replace HK := Hid.mk_ (HK.out.trans k3)
  clear hM k3 hG hb
  go_wp2_with fail
  refine (keepRuns w3 v vt raw texts ahead D (HWI.out.still HK.out) H64.out (HTI.out.still HK.out) ha hD).mono ?_
  rintro e w4 ⟨⟨vr, rfl, hcase⟩, k4⟩
  generalize Dp.openedMach raw texts ahead = M at *
  replace HM := Hid.mk_ (HM.out.keep k4 (fun e => e) (fun _ _ e => e))
  replace HK := Hid.mk_ (HK.out.trans k4)
  clear k4 HWI HTI H64
  rcases hcase with ⟨hgo, ho, _⟩ | hnil
  · obtain ⟨gr, cr, evr, hst⟩ := Dp.own_stamp ho (Nat.succ_pos _)
    subst evr
    obtain ⟨P, hP⟩ : ∃ P : Nat, P = 2 ^ D := ⟨_, rfl⟩
    have hPb : P ≤ 128 := by rw [hP]; exact Nat.pow_le_pow_right (n := 2) (i := D) (j := 7) (by decide) hD
    have HP := Hid.mk_ hP
    have HSH : Hid (∀ wx, (binOp .shl 3 (.int .i64 1) (.int .u64 (D : Int))).run Tryz.prog wx = .ok (.int .i64 (P : Int)) wx) := by
      intro wx; rw [hP]; exact shlRun D (by omega) wx
    have HGO := Hid.mk_ hgo
    have HOKM := Hid.mk_ HM.out.ok
    have hgb : gr ≠ b := ho.ne HM.out.row (by decide) gr rfl
    obtain ⟨B, hB⟩ : ∃ B : Nat, B = w4.heap.size := ⟨_, rfl⟩
    have hgrB : gr < B := by have h : gr < w4.heap.size := Dp.cell_lt (hst 0 (Nat.succ_pos _)); omega
    have hbB : b < B := by have := HM.out.row.lt; omega
    have HGB : Hid (∀ q, G q → q < B) := fun q hq => by have := (HM.out.own q hq).1; omega
    have hwB : w.heap.size ≤ B := by have := HK.out.size; omega
    have HH : Hid (Dp.HonL w w4 B b G vs M D gr [] 0 P (.slice none 0 0) (.slice none 0 0)) := by
      refine ⟨?_, ?_, ⟨rfl, .inl ⟨rfl, rfl⟩⟩, Dp.Own.nil _ _, fun g hg => by simp [Value.ownBlock] at hg, HM.out, hst, HK.out, by omega⟩
      · rw [hP]; exact Dp.Left2.start _ _ _
      · rw [Nat.zero_add, hP, Dp.endsOf]
    rw [← hP]
    have heq := fun wx => Lib.run_eql_slice_nil (P := Tryz.prog) wx 22 3 (some ⟨gr, 0, none⟩) (P + 1) cr 0 0 Tryz.underlying22
    clear hgo ho hst HM HK hP hB
    go_wp2_with (refine Dp.wpList_binop rfl .shl 3 _ _ _ rfl (.int .i64 1) (.int .u64 (D : Int)) (.int .i64 P) rfl rfl rfl (HSH.out _) ?_; intro _)
    go_loopw [14, 15, 16, 17, 18] (fun vm va ia isz ii wr => ∃ (ms : List (Int × Bool)) (at_ sz : Nat), ms.length ≤ D ∧ ii = .int .i64 ms.length ∧ ia = .int .i64 at_ ∧ isz = .int .i64 sz ∧ Hid (Dp.HonL w wr B b G vs M D gr ms at_ sz vm va)) (fun _ _ _ _ ii _ => D - (intOf ii).toNat)
    case atStart => exact ⟨[], 0, P, Nat.zero_le _, rfl, rfl, rfl, HH⟩
    case round =>
      obtain ⟨ms, at_, sz, hml, rfl, rfl, rfl, HHr⟩ := hrel
      clear HH
      have hleP : at_ + sz ≤ P := by have h := HHr.out.left.le; rw [HP.out]; exact h
      by_cases hlt : ms.length < D
      · obtain ⟨q, hq⟩ : ∃ q : Nat, q = sz / 2 := ⟨_, rfl⟩
        have hq2 : (sz : Int) / 2 = (q : Int) := by omega
        obtain ⟨I1, hI⟩ : ∃ I1 : Nat, I1 = at_ + q := ⟨_, rfl⟩
        have hI2 : (at_ : Int) + (q : Int) = (I1 : Int) := by omega
        have hIb : I1 < P + 1 := by omega
        have HQ := Hid.mk_ hq
        have HI1 := Hid.mk_ hI
        have hlt' : (ms.length : Int) < (D : Int) := by omega
        have HANS := Hid.mk_ (honAnswer HHr.out HGO.out hlt hD)
        rw [← hq, ← hI] at HANS
        obtain ⟨ST, hST⟩ : ∃ ST : Int, ST = Dp.stAt M I1 := ⟨_, rfl⟩
        rw [← hST] at HANS
        have HST : Hid (ST = Dp.stAt M (at_ + sz / 2)) := by unfold Hid; rw [hST, hI, hq]
        have HSI := Hid.mk_ hST
        clear hq hI hST
        go_wp2_with fail
        refine HANS.out.mono ?_
        rintro e w5 ⟨rfl, k5⟩
        have HH5 := Hid.mk_ (HHr.out.still k5)
        have cst : w5.cell? ⟨gr, I1, none⟩ = some (.int .i64 ST) := by rw [HSI.out]; exact HH5.out.st I1 (by rw [← HP.out]; exact hIb)
        have HW5 := Hid.mk_ HH5.out.keep
        clear k5 HHr HANS
        by_cases hli : ms.length < lefts.length
        · obtain ⟨rfl, hlb⟩ := HLN.out (by intro e; simp [e] at hli)
          have hli' : (ms.length : Int) < (lefts.length : Int) := by omega
          have clf : w5.cell? ⟨lb, lo + ms.length, none⟩ = some (.bool lefts[ms.length]) := (HW5.out.cell (p := ⟨lb, lo + ms.length, none⟩) hlb (fun e => e)).trans (HLC.out ms.length hli)
          generalize lefts[ms.length] = LB at *
          cases LB with
          | true =>
            have kal1 := (Dp.Keeps.refl (fun _ => False) w5).alloc (.cells #[.int .i64 ST, .bool true] 61)
            have HR5 : Hid ((w5.alloc (.cells #[.int .i64 ST, .bool true] 61)).ownsRow B 61 2 u14 ms.length (Dp.mvCells ms)) := Dp.ownsRow_keep HH5.out.rows kal1 (fun _ _ e => e)
            have hB5 : B ≤ (w5.alloc (.cells #[.int .i64 ST, .bool true] 61)).heap.size := Nat.le_trans HH5.out.siz kal1.size
            have NW1 : Hid (∀ j u, [Value.int .i64 ST, Value.bool true][j]? = some u → (w5.alloc (.cells #[.int .i64 ST, .bool true] 61)).cell? ((⟨w5.heap.size, 0, none⟩ : Addr).add j) = some u) := fun j u h => by
              rw [Dp.add_zero_off]
              exact ((Dp.Row.allocNew w5 61 [.int .i64 ST, .bool true]).cell j).trans h
            have HKA := Hid.mk_ kal1
            clear kal1
            go_wp2_with (at_builtin; refine Dp.wpList_append_rows rfl _ _ 57 rfl B 61 (.agg #[.int .i64 0, .bool false]) 2 16 Tryz.underlying57 infoMove rfl (by omega) u14 ms.length (Dp.mvCells ms) rfl HR5.out ⟨w5.heap.size, 0, none⟩ 1 1 [.int .i64 ST, .bool true] rfl rfl NW1.out (fun x hx => by simp at hx; rcases hx with rfl | rfl <;> rfl) (by unfold maxLen; omega) (by omega) hB5 ?_)
            intro vm6 w6 rows6 k6
            have HROW6 := Hid.mk_ rows6
            have HK6 := Hid.mk_ k6
            clear rows6 k6 HR5 NW1
            have kal2 := (Dp.Keeps.refl (fun _ => False) w6).alloc (.cells #[.bool true] 4)
            have HO6 := Hid.mk_ ((HH5.out.own2 HKA.out HK6.out).keep kal2 (fun _ _ e => e))
            have NW2 : Hid (∀ j u, [Value.bool true][j]? = some u → (w6.alloc (.cells #[.bool true] 4)).cell? ((⟨w6.heap.size, 0, none⟩ : Addr).add j) = some u) := fun j u h => Dp.cell_one w6 _ _ j u h
            have HLB : Hid ((Dp.boolCells (ms.map (·.2))).length = ms.length) := by unfold Hid Dp.boolCells; rw [List.length_map, List.length_map]
            have HKB := Hid.mk_ kal2
            have hs6 : B ≤ w6.heap.size := Nat.le_trans hB5 HK6.out.size
            clear kal2
            go_wp2_with (at_builtin; refine Dp.wpList_append_Own rfl _ _ 38 rfl 4 (.bool false) 1 Tryz.underlying38 infoBool2 rfl u15 (Dp.boolCells (ms.map (·.2))) rfl HO6.out ⟨w6.heap.size, 0, none⟩ 1 1 [.bool true] rfl rfl NW2.out (fun x hx => by simp at hx; subst hx; rfl) (by omega) (by rw [HLB.out]; unfold maxLen; omega) (by rw [HLB.out]; omega) ?_)
            intro va8 w8 own8 k8 s8
            have HN : Hid (Dp.HonL w w8 B b G vs M D gr (ms ++ [(ST, true)]) at_ q vm6 va8) := by
              have h := HH5.out.grow hwB hbB hgrB HGB.out HST.out hlt HKA.out HROW6.out HK6.out HKB.out own8 k8 (by
                rcases s8.out with hh | hh
                · exact .inl hh.1
                · refine .inr fun g hg => ?_
                  rw [hh.1] at hg
                  simp at hg
                  omega)
              rw [← HQ.out] at h
              unfold Hid; simpa [HI1.out] using h
            clear own8 k8 s8 HO6 HROW6
            go_wp2
            go_roundw
            case rel => exact ⟨ms ++ [(ST, true)], at_, q, by rw [List.length_append]; simp; omega, by rw [List.length_append]; go_num, rfl, rfl, HN⟩
            case measure => simp [intOf]; omega
          | false =>
            have kal1 := (Dp.Keeps.refl (fun _ => False) w5).alloc (.cells #[.int .i64 ST, .bool false] 61)
            have HR5 : Hid ((w5.alloc (.cells #[.int .i64 ST, .bool false] 61)).ownsRow B 61 2 u14 ms.length (Dp.mvCells ms)) := Dp.ownsRow_keep HH5.out.rows kal1 (fun _ _ e => e)
            have hB5 : B ≤ (w5.alloc (.cells #[.int .i64 ST, .bool false] 61)).heap.size := Nat.le_trans HH5.out.siz kal1.size
            have NW1 : Hid (∀ j u, [Value.int .i64 ST, Value.bool false][j]? = some u → (w5.alloc (.cells #[.int .i64 ST, .bool false] 61)).cell? ((⟨w5.heap.size, 0, none⟩ : Addr).add j) = some u) := fun j u h => by
              rw [Dp.add_zero_off]
              exact ((Dp.Row.allocNew w5 61 [.int .i64 ST, .bool false]).cell j).trans h
            have HKA := Hid.mk_ kal1
            clear kal1
            go_wp2_with (at_builtin; refine Dp.wpList_append_rows rfl _ _ 57 rfl B 61 (.agg #[.int .i64 0, .bool false]) 2 16 Tryz.underlying57 infoMove rfl (by omega) u14 ms.length (Dp.mvCells ms) rfl HR5.out ⟨w5.heap.size, 0, none⟩ 1 1 [.int .i64 ST, .bool false] rfl rfl NW1.out (fun x hx => by simp at hx; rcases hx with rfl | rfl <;> rfl) (by unfold maxLen; omega) (by omega) hB5 ?_)
            intro vm6 w6 rows6 k6
            have HROW6 := Hid.mk_ rows6
            have HK6 := Hid.mk_ k6
            clear rows6 k6 HR5 NW1
            have kal2 := (Dp.Keeps.refl (fun _ => False) w6).alloc (.cells #[.bool false] 4)
            have HO6 := Hid.mk_ ((HH5.out.own2 HKA.out HK6.out).keep kal2 (fun _ _ e => e))
            have NW2 : Hid (∀ j u, [Value.bool false][j]? = some u → (w6.alloc (.cells #[.bool false] 4)).cell? ((⟨w6.heap.size, 0, none⟩ : Addr).add j) = some u) := fun j u h => Dp.cell_one w6 _ _ j u h
            have HLB : Hid ((Dp.boolCells (ms.map (·.2))).length = ms.length) := by unfold Hid Dp.boolCells; rw [List.length_map, List.length_map]
            have HKB := Hid.mk_ kal2
            have hs6 : B ≤ w6.heap.size := Nat.le_trans hB5 HK6.out.size
            clear kal2
            go_wp2_with (at_builtin; refine Dp.wpList_append_Own rfl _ _ 38 rfl 4 (.bool false) 1 Tryz.underlying38 infoBool2 rfl u15 (Dp.boolCells (ms.map (·.2))) rfl HO6.out ⟨w6.heap.size, 0, none⟩ 1 1 [.bool false] rfl rfl NW2.out (fun x hx => by simp at hx; subst hx; rfl) (by omega) (by rw [HLB.out]; unfold maxLen; omega) (by rw [HLB.out]; omega) ?_)
            intro va8 w8 own8 k8 s8
            have HN : Hid (Dp.HonL w w8 B b G vs M D gr (ms ++ [(ST, false)]) I1 q vm6 va8) := by
              have h := HH5.out.grow hwB hbB hgrB HGB.out HST.out hlt HKA.out HROW6.out HK6.out HKB.out own8 k8 (by
                rcases s8.out with hh | hh
                · exact .inl hh.1
                · refine .inr fun g hg => ?_
                  rw [hh.1] at hg
                  simp at hg
                  omega)
              rw [← HQ.out] at h
              unfold Hid; simpa [HI1.out] using h
            clear own8 k8 s8 HO6 HROW6
            go_wp2
            go_roundw
            case rel => exact ⟨ms ++ [(ST, false)], I1, q, by rw [List.length_append]; simp; omega, by rw [List.length_append]; go_num, rfl, rfl, HN⟩
            case measure => simp [intOf]; omega
        · have hli' : ¬ (ms.length : Int) < (lefts.length : Int) := by omega
          have kal1 := (Dp.Keeps.refl (fun _ => False) w5).alloc (.cells #[.int .i64 ST, .bool false] 61)
          have HR5 : Hid ((w5.alloc (.cells #[.int .i64 ST, .bool false] 61)).ownsRow B 61 2 u14 ms.length (Dp.mvCells ms)) := Dp.ownsRow_keep HH5.out.rows kal1 (fun _ _ e => e)
          have hB5 : B ≤ (w5.alloc (.cells #[.int .i64 ST, .bool false] 61)).heap.size := Nat.le_trans HH5.out.siz kal1.size
          have NW1 : Hid (∀ j u, [Value.int .i64 ST, Value.bool false][j]? = some u → (w5.alloc (.cells #[.int .i64 ST, .bool false] 61)).cell? ((⟨w5.heap.size, 0, none⟩ : Addr).add j) = some u) := fun j u h => by
            rw [Dp.add_zero_off]
            exact ((Dp.Row.allocNew w5 61 [.int .i64 ST, .bool false]).cell j).trans h
          have HKA := Hid.mk_ kal1
          clear kal1
          go_wp2_with (at_builtin; refine Dp.wpList_append_rows rfl _ _ 57 rfl B 61 (.agg #[.int .i64 0, .bool false]) 2 16 Tryz.underlying57 infoMove rfl (by omega) u14 ms.length (Dp.mvCells ms) rfl HR5.out ⟨w5.heap.size, 0, none⟩ 1 1 [.int .i64 ST, .bool false] rfl rfl NW1.out (fun x hx => by simp at hx; rcases hx with rfl | rfl <;> rfl) (by unfold maxLen; omega) (by omega) hB5 ?_)
          intro vm6 w6 rows6 k6
          have HROW6 := Hid.mk_ rows6
          have HK6 := Hid.mk_ k6
          clear rows6 k6 HR5 NW1
          have kal2 := (Dp.Keeps.refl (fun _ => False) w6).alloc (.cells #[.bool false] 4)
          have HO6 := Hid.mk_ ((HH5.out.own2 HKA.out HK6.out).keep kal2 (fun _ _ e => e))
          have NW2 : Hid (∀ j u, [Value.bool false][j]? = some u → (w6.alloc (.cells #[.bool false] 4)).cell? ((⟨w6.heap.size, 0, none⟩ : Addr).add j) = some u) := fun j u h => Dp.cell_one w6 _ _ j u h
          have HLB : Hid ((Dp.boolCells (ms.map (·.2))).length = ms.length) := by unfold Hid Dp.boolCells; rw [List.length_map, List.length_map]
          have HKB := Hid.mk_ kal2
          have hs6 : B ≤ w6.heap.size := Nat.le_trans hB5 HK6.out.size
          clear kal2
          go_wp2_with (at_builtin; refine Dp.wpList_append_Own rfl _ _ 38 rfl 4 (.bool false) 1 Tryz.underlying38 infoBool2 rfl u15 (Dp.boolCells (ms.map (·.2))) rfl HO6.out ⟨w6.heap.size, 0, none⟩ 1 1 [.bool false] rfl rfl NW2.out (fun x hx => by simp at hx; subst hx; rfl) (by omega) (by rw [HLB.out]; unfold maxLen; omega) (by rw [HLB.out]; omega) ?_)
          intro va8 w8 own8 k8 s8
          have HN : Hid (Dp.HonL w w8 B b G vs M D gr (ms ++ [(ST, false)]) I1 q vm6 va8) := by
            have h := HH5.out.grow hwB hbB hgrB HGB.out HST.out hlt HKA.out HROW6.out HK6.out HKB.out own8 k8 (by
              rcases s8.out with hh | hh
              · exact .inl hh.1
              · refine .inr fun g hg => ?_
                rw [hh.1] at hg
                simp at hg
                omega)
            rw [← HQ.out] at h
            unfold Hid; simpa [HI1.out] using h
          clear own8 k8 s8 HO6 HROW6
          go_wp2
          go_roundw
          case rel => exact ⟨ms ++ [(ST, false)], I1, q, by rw [List.length_append]; simp; omega, by rw [List.length_append]; go_num, rfl, rfl, HN⟩
          case measure => simp [intOf]; omega
      · have hlt' : ¬ (ms.length : Int) < (D : Int) := by omega
        have hDl : ms.length = D := by omega
        have hs1 : sz = 1 := by have h := HHr.out.left.siz; rw [hDl, Nat.sub_self] at h; simpa using h
        subst hs1
        have HDL := Hid.mk_ hDl
        clear hDl
        have q0 : ∀ wx, Dp.Keeps (fun _ => False) wr wx → wx.cell? ⟨gr, 0, none⟩ = some (.int .i64 (Dp.stAt M 0)) := fun wx kx => (HHr.out.still kx).st 0 (Nat.succ_pos _)
        have HSTP : Hid (∀ wx, Dp.Keeps (fun _ => False) wr wx → Calls Tryz.prog 22 #[.pointer (some ⟨b, 0, none⟩)] wx fun e w' => e = .returned (.int .i64 (Dp.stAt M 0)) ∧ Dp.Keeps (fun _ => False) wx w') := fun wx kx => progMStamp wx b G vs M (HHr.out.still kx).mach
        have hS0 : Dp.Keeps (fun _ => False) wr wr.drew := (Dp.Keeps.refl _ _).drew
        rw [show ((1 : Nat) : Int) = 1 from rfl]
        generalize hE0 : Dp.stAt M 0 = S0 at *
        have HE0 := Hid.mk_ hE0
        clear hE0
        go_wp2
        refine Dp.wp_region_L (fun wx => Dp.Keeps (fun _ => False) wr wx) 5 mixedP ?_
        refine' Dp.wpAnyL_take 0 rfl (by kernel_rfl) (fun _ _ _ h => h) (by rfl) ?hyp0 hS0 ?restp0
        case hyp0 => intro wx hSx; go_simp; try with_reducible rfl
        simp only [Act.put, List.getElem_toArray, List.getElem_cons_zero, List.setIfInBounds_toArray, List.set_cons_zero, List.set_cons_succ]
        refine' Dp.wpAnyL_take 2 rfl (by kernel_rfl) (fun _ _ _ h => h) (by rfl) ?hyp2 hS0 ?restp2
        case hyp2 => intro wx hSx; go_simp; try with_reducible rfl
        simp only [Act.put, List.getElem_toArray, List.getElem_cons_zero, List.getElem_cons_succ, List.setIfInBounds_toArray, List.set_cons_zero, List.set_cons_succ]
        refine' Dp.wpAnyL_take 3 rfl (by kernel_rfl) (fun _ _ _ h => h) (by rfl) ?hyp3 hS0 ?restp3
        case hyp3 => intro wx hSx; go_simp; try with_reducible rfl
        simp only [Act.put, List.getElem_toArray, List.getElem_cons_zero, List.getElem_cons_succ, List.setIfInBounds_toArray, List.set_cons_zero, List.set_cons_succ]
        refine' Dp.wpAnyL_take 4 rfl (by kernel_rfl) (fun _ _ _ h => h) (by rfl) ?hyp4 hS0 ?restp4
        case hyp4 => intro wx hSx; go_simp; try with_reducible rfl
        simp only [Act.put, List.getElem_toArray, List.getElem_cons_zero, List.getElem_cons_succ, List.setIfInBounds_toArray, List.set_cons_zero, List.set_cons_succ]
        refine Dp.wpAnyL_one 1 rfl (by kernel_rfl) (by rfl) (fun K hK => ?_)
        go_simp
        refine (HSTP.out _ hS0).mono ?_
        rintro e w6 ⟨rfl, k6⟩
        have hS6 := hS0.trans k6
        refine hK _ _ ⟨fun _ => hS6, ?_⟩
        clear hK K q0
        refine Dp.wpAnyL_rest (by kernel_rfl) ?_
        refine Dp.wpAny_tail 5 rfl (by kernel_rfl) ?_
        simp only [List.drop_succ_cons, List.drop_zero]
        have HH6 := Hid.mk_ (HHr.out.still hS6)
        clear k6 hS0 hS6 HSTP HHr
        go_wp2
        go_loopw [22] (fun ii wr2 => ∃ k : Nat, k ≤ at_ ∧ ii = .int .i64 k ∧ Hid (Dp.ProgM wr2 b G vs (Dp.Mach.after M k)) ∧ Hid (Dp.Keeps (fun k => k = b) w6 wr2)) (fun ii _ => at_ - (intOf ii).toNat)
        case atStart => exact ⟨0, Nat.zero_le _, rfl, HH6.out.mach, Dp.Keeps.refl _ _⟩
        case round =>
          obtain ⟨k, hk, rfl, HMk, HKk⟩ := hrel
          by_cases hka : k < at_
          · have h0 : (Dp.Mach.after M k).step.2 = 0 := HGO.out k (by have := HH6.out.left.le; omega)
            have hka' : (k : Int) < (at_ : Int) := by omega
            go_wp2_with fail
            refine (progMStep _ b G vs _ HMk.out).mono ?_
            rintro e w7 ⟨rfl, k7, hM7⟩
            rw [h0]
            have HM7 : Hid (Dp.ProgM w7 b G vs (Dp.Mach.after M (k + 1))) := hM7
            have HK7 := Hid.mk_ (HKk.out.trans k7)
            clear hM7 k7 HMk HKk h0
            go_wp2
            go_roundw
            case rel => exact ⟨k + 1, by omega, by go_num, HM7, HK7⟩
            case measure => simp [intOf]; omega
          · obtain rfl : k = at_ := by omega
            have hka' : ¬ (k : Int) < (k : Int) := by omega
            have h0 : (Dp.Mach.after M k).step.2 = 0 := HGO.out k (by have := HH6.out.left.le; omega)
            have HST7 : Hid (∀ i, i < P + 1 → wr.cell? ⟨gr, i, none⟩ = some (.int .i64 (Dp.stAt M i))) := fun i hi => by
              have h := HH6.out.st i (by rw [← HP.out]; exact hi)
              exact (HKk.out.cell (p := ⟨gr, i, none⟩) (Dp.cell_lt h) hgb).trans h
            have HRW7 : Hid (wr.ownsRow B 61 2 u14 ms.length (Dp.mvCells ms)) := Dp.ownsRow_keep HH6.out.rows HKk.out (fun g hg e => by have := (Dp.rows_block HH6.out.rows g hg).1; omega)
            have HK7 : Hid (Dp.Keeps (fun _ => False) w wr) := HH6.out.keep.next HKk.out (fun q hq e => by omega)
            have HL7 := Hid.mk_ HH6.out.left
            have HR7 := Hid.mk_ HH6.out.right
            clear HH6 HKk
            go_wp2_with fail
            refine (progMWitness _ b G vs _ HMk.out).mono ?_
            rintro e w8 ⟨v8, rfl, ho8, hf8, k8⟩
            rw [h0]
            obtain ⟨va8, vc8, ev8⟩ := ho8.isSlice
            rw [Dp.vals_length] at ev8
            subst ev8
            obtain ⟨K1, hK1⟩ : ∃ K1 : Nat, K1 = k + 1 := ⟨_, rfl⟩
            have hK2 : (k : Int) + 1 = (K1 : Int) := by omega
            have hK3 : K1 < P + 1 := by have := HL7.out.le; rw [HP.out]; omega
            have hk3 : k < P + 1 := by omega
            have hwl := Dp.witness_small (Dp.Mach.after M k) HMk.out.ok
            have HSF := Hid.mk_ (Dp.settled_fair D hD M HOKM.out HGO.out ms HDL.out k HL7.out HR7.out)
            have q1 : ∀ wx, Dp.Keeps (fun _ => False) w8 wx → ∀ i, i < P + 1 → wx.cell? ⟨gr, i, none⟩ = some (.int .i64 (Dp.stAt M i)) := fun wx kx i hi => by
              have h := HST7.out i hi
              have h2 := (k8.cell (p := ⟨gr, i, none⟩) (Dp.cell_lt h) (fun e => e)).trans h
              exact (kx.cell (p := ⟨gr, i, none⟩) (Dp.cell_lt h2) (fun e => e)).trans h2
            have HMV := Hid.mk_ (Dp.moves_of_rows (Dp.ownsRow_keep HRW7.out k8 (fun _ _ e => e)) (by omega))
            have HCU := Hid.mk_ (Dp.own_cutting ho8)
            have HK8 := Hid.mk_ (HK7.out.trans k8)
            have he8 := Hid.mk_ (HE.out.keep HK8.out)
            rw [← HP.out, ← hK1, HE0.out] at HSF
            obtain ⟨SP, hSP⟩ : ∃ x : Int, x = Dp.stAt M P := ⟨_, rfl⟩
            obtain ⟨SK, hSK⟩ : ∃ x : Int, x = Dp.stAt M k := ⟨_, rfl⟩
            obtain ⟨SK1, hSK1⟩ : ∃ x : Int, x = Dp.stAt M K1 := ⟨_, rfl⟩
            rw [← hSP, ← hSK, ← hSK1] at HSF
            have c0 : ∀ wx, Dp.Keeps (fun _ => False) w8 wx → wx.cell? ⟨gr, 0, none⟩ = some (.int .i64 S0) := fun wx kx => by rw [← HE0.out]; exact q1 wx kx 0 (by omega)
            have cP : ∀ wx, Dp.Keeps (fun _ => False) w8 wx → wx.cell? ⟨gr, P, none⟩ = some (.int .i64 SP) := fun wx kx => by rw [hSP]; exact q1 wx kx P (by omega)
            have ck : ∀ wx, Dp.Keeps (fun _ => False) w8 wx → wx.cell? ⟨gr, k, none⟩ = some (.int .i64 SK) := fun wx kx => by rw [hSK]; exact q1 wx kx k (by omega)
            have cK : ∀ wx, Dp.Keeps (fun _ => False) w8 wx → wx.cell? ⟨gr, K1, none⟩ = some (.int .i64 SK1) := fun wx kx => by rw [hSK1]; exact q1 wx kx K1 (by omega)
            generalize hWX : Dp.witnessOf (Dp.Mach.after M k) = WX at *
            have HS : Hid (∀ wx, Dp.Keeps (fun _ => False) w8 wx → Calls Tryz.prog 26 #[.int .i64 D, .int .i64 S0, .int .i64 SP, u14, .slice va8 WX.length vc8] wx fun e w' => e = .returned (.tuple #[.agg (Dp.verdictCells SK SK1 k true).toArray, .int .i64 0]) ∧ Dp.Keeps (fun _ => False) wx w') := fun wx kx => by
              have h := progSettle wx eb D S0 SP u14 ms va8 vc8 WX (he8.out.keep kx) (HMV.out.keep kx) (HCU.out.still kx) (by omega)
              rw [HSF.out] at h
              exact h
            obtain ⟨mva, mvc, emv⟩ : ∃ a c, u14 = .slice a ms.length c := by obtain ⟨_, _, a, c, e, _⟩ := HMV.out; exact ⟨a, c, e⟩
            subst emv
            clear q1 HST7 HRW7 HMV HCU HSF he8 HMk ho8 hf8 k8 hSP hSK hSK1 hWX HL7 HR7 h0 hK1 hwl HK7
            generalize WX.length = WL at *
            go_upto_region 34 with (fail)
            go_cut [26, 27] (fun t r wx => ∃ T, t = .pointer (some ⟨T, 0, none⟩) ∧ w8.heap.size ≤ T ∧ r = .int .i64 0 ∧ Hid (Dp.Row wx T 64 (Dp.verdictCells SK SK1 k true)) ∧ Hid (Dp.Keeps (fun _ => False) w8 wx))
            case first =>
              have hS0 : Dp.Keeps (fun _ => False) w8 w8.drew := (Dp.Keeps.refl _ _).drew
              refine Dp.wp_region_L (fun wx => Dp.Keeps (fun _ => False) w8 wx) 18 mixedP ?_
              have hPw : IntKind.i64.wrap (P : Int) = (P : Int) := IntWalk.i64_in _ (by omega)
              have hP5 : (P : Int) < (P : Int) + 1 := by omega
              refine' Dp.wpAnyL_take 0 rfl (by kernel_rfl) (fun _ _ _ h => h) (by rfl) ?hys0 hS0 ?rests0
              case hys0 => intro wx hSx; go_simp; try with_reducible rfl
              simp only [Act.put, List.getElem_toArray, List.getElem_cons_zero, List.setIfInBounds_toArray, List.set_cons_zero, List.set_cons_succ]
              refine' Dp.wpAnyL_take 1 rfl (by kernel_rfl) (fun _ _ _ h => h) (by rfl) ?hys1 hS0 ?rests1
              case hys1 => intro wx hSx; go_simp; try with_reducible rfl
              simp only [Act.put, List.getElem_toArray, List.getElem_cons_zero, List.getElem_cons_succ, List.setIfInBounds_toArray, List.set_cons_zero, List.set_cons_succ]
              refine' Dp.wpAnyL_take 2 rfl (by kernel_rfl) (fun _ _ _ h => h) (by rfl) ?hys2 hS0 ?rests2
              case hys2 => intro wx hSx; go_simp; try with_reducible rfl
              simp only [Act.put, List.getElem_toArray, List.getElem_cons_zero, List.getElem_cons_succ, List.setIfInBounds_toArray, List.set_cons_zero, List.set_cons_succ]
              refine' Dp.wpAnyL_take 3 rfl (by kernel_rfl) (fun _ _ _ h => h) (by rfl) ?hys3 hS0 ?rests3
              case hys3 => intro wx hSx; go_simp; try with_reducible rfl
              simp only [Act.put, List.getElem_toArray, List.getElem_cons_zero, List.getElem_cons_succ, List.setIfInBounds_toArray, List.set_cons_zero, List.set_cons_succ]
              refine' Dp.wpAnyL_take 4 rfl (by kernel_rfl) (fun _ _ _ h => h) (by rfl) ?hys4 hS0 ?rests4
              case hys4 => intro wx hSx; go_simp; try with_reducible rfl
              simp only [Act.put, List.getElem_toArray, List.getElem_cons_zero, List.getElem_cons_succ, List.setIfInBounds_toArray, List.set_cons_zero, List.set_cons_succ]
              refine' Dp.wpAnyL_take 5 rfl (by kernel_rfl) (fun _ _ _ h => h) (by rfl) ?hys5 hS0 ?rests5
              case hys5 => intro wx hSx; go_simp; try with_reducible rfl
              simp only [Act.put, List.getElem_toArray, List.getElem_cons_zero, List.getElem_cons_succ, List.setIfInBounds_toArray, List.set_cons_zero, List.set_cons_succ]
              refine' Dp.wpAnyL_take 6 rfl (by kernel_rfl) (fun _ _ _ h => h) (by rfl) ?hys6 hS0 ?rests6
              case hys6 => intro wx hSx; go_simp; try with_reducible rfl
              simp only [Act.put, List.getElem_toArray, List.getElem_cons_zero, List.getElem_cons_succ, List.setIfInBounds_toArray, List.set_cons_zero, List.set_cons_succ]
              refine' Dp.wpAnyL_take (v := .int .i64 (P : Int)) 7 rfl (by kernel_rfl) (fun _ _ _ h => h) (by rfl) ?hys7 hS0 ?rests7
              case hys7 => intro wx hSx; go_simp; try rw [hPw]
              simp only [Act.put, List.getElem_toArray, List.getElem_cons_zero, List.getElem_cons_succ, List.setIfInBounds_toArray, List.set_cons_zero, List.set_cons_succ]
              refine' Dp.wpAnyL_take 8 rfl (by kernel_rfl) (fun _ _ _ h => h) (by rfl) ?hys8 hS0 ?rests8
              case hys8 => intro wx hSx; go_simp; try with_reducible rfl
              simp only [Act.put, List.getElem_toArray, List.getElem_cons_zero, List.getElem_cons_succ, List.setIfInBounds_toArray, List.set_cons_zero, List.set_cons_succ]
              refine' Dp.wpAnyL_take 9 rfl (by kernel_rfl) (fun _ _ _ h => h) (by rfl) ?hys9 hS0 ?rests9
              case hys9 => intro wx hSx; go_simp; try with_reducible rfl
              simp only [Act.put, List.getElem_toArray, List.getElem_cons_zero, List.getElem_cons_succ, List.setIfInBounds_toArray, List.set_cons_zero, List.set_cons_succ]
              refine' Dp.wpAnyL_take 10 rfl (by kernel_rfl) (fun _ _ _ h => h) (by rfl) ?hys10 hS0 ?rests10
              case hys10 => intro wx hSx; go_simp; try with_reducible rfl
              simp only [Act.put, List.getElem_toArray, List.getElem_cons_zero, List.getElem_cons_succ, List.setIfInBounds_toArray, List.set_cons_zero, List.set_cons_succ]
              refine' Dp.wpAnyL_take 11 rfl (by kernel_rfl) (fun _ _ _ h => h) (by rfl) ?hys11 hS0 ?rests11
              case hys11 => intro wx hSx; go_simp; try with_reducible rfl
              simp only [Act.put, List.getElem_toArray, List.getElem_cons_zero, List.getElem_cons_succ, List.setIfInBounds_toArray, List.set_cons_zero, List.set_cons_succ]
              refine Dp.wpAnyL_both 12 16 rfl rfl (by kernel_rfl) (by rfl) (by rfl) (fun K hK => ?_) (fun K hK => ?_)
              · go_simp
                refine (HS.out _ hS0).mono ?_
                rintro e w9 ⟨rfl, k9⟩
                have hS9 := hS0.trans k9
                refine hK _ _ ⟨fun _ => hS9, ?_⟩
                clear hK K
                refine' Dp.wpAnyL_take 13 rfl (by kernel_rfl) (fun _ _ _ h => h) (by rfl) ?hyt13 hS9 ?restt13
                case hyt13 => intro wx hSx; go_simp; try with_reducible rfl
                simp only [Act.put, List.getElem_toArray, List.getElem_cons_zero, List.getElem_cons_succ, List.setIfInBounds_toArray, List.set_cons_zero, List.set_cons_succ]
                refine' Dp.wpAnyL_take 14 rfl (by kernel_rfl) (fun _ _ _ h => h) (by rfl) ?hyt14 hS9 ?restt14
                case hyt14 => intro wx hSx; go_simp; try with_reducible rfl
                simp only [Act.put, List.getElem_toArray, List.getElem_cons_zero, List.getElem_cons_succ, List.setIfInBounds_toArray, List.set_cons_zero, List.set_cons_succ]
                refine' Dp.wpAnyL_take 15 rfl (by kernel_rfl) (fun _ _ _ h => h) (by rfl) ?hyt15 hS9 ?restt15
                case hyt15 => intro wx hSx; go_simp; try with_reducible rfl
                simp only [Act.put, List.getElem_toArray, List.getElem_cons_zero, List.getElem_cons_succ, List.setIfInBounds_toArray, List.set_cons_zero, List.set_cons_succ]
                refine Dp.wpAnyL_one 16 rfl (by kernel_rfl) (by rfl) (fun K hK => ?_)
                refine Dp.wp_alloc_row 64 rfl _ zeroVerdict ?_
                intro w10 r10 z10 k10
                have hS10 := hS9.trans k10
                refine hK _ _ ⟨fun _ => hS10, ?_⟩
                clear hK K
                simp only [Act.put, List.getElem_toArray, List.getElem_cons_zero, List.getElem_cons_succ, List.setIfInBounds_toArray, List.set_cons_zero, List.set_cons_succ]
                have HR10 := Hid.mk_ (Dp.row_nil r10)
                refine Dp.wpAnyL_one 17 rfl (by kernel_rfl) (by rfl) (fun K hK => ?_)
                refine Dp.wp_store_in 64 _ _ rfl w9.heap.size 0 rfl (Dp.verdictCells SK SK1 k true) rfl 64 [] (Dp.verdictCells 0 0 0 false) [] HR10.out rfl rfl (by rw [sizeVerdict]; rfl) (by intro v hv; simp [Dp.verdictCells] at hv; rcases hv with rfl | rfl | rfl | rfl <;> rfl) ?_
                intro w11 r11 z11 k11
                have hS11 : Dp.Keeps (fun _ => False) w8 w11 := hS10.next k11 (fun q hq e => by have := hS9.size; omega)
                refine hK _ _ ⟨fun _ => hS11, ?_⟩
                clear hK K
                refine Dp.wpAnyL_rest (by kernel_rfl) ?_
                refine Dp.wpAny_tail 18 rfl (by kernel_rfl) ?_
                simp only [List.drop_succ_cons, List.drop_zero]
                have h9 : w8.heap.size ≤ w9.heap.size := hS9.size
                have HF : Hid (Dp.Row w11 w9.heap.size 64 (Dp.verdictCells SK SK1 k true) ∧ Dp.Keeps (fun _ => False) w8 w11) := ⟨by simpa using r11, hS11⟩
                clear r11 k11 k10 k9 hS9 hS10 hS11 HR10 r10 z10 z11
                go_wp2
                go_meet
                case rel => exact ⟨w9.heap.size, rfl, h9, rfl, HF.out.1, HF.out.2⟩
              · refine Dp.wp_alloc_row 64 rfl _ zeroVerdict ?_
                intro w9 r9 z9 k9
                have hS9 := hS0.trans k9
                refine hK _ _ ⟨fun _ => hS9, ?_⟩
                clear hK K
                simp only [Act.put, List.getElem_toArray, List.getElem_cons_zero, List.getElem_cons_succ, List.setIfInBounds_toArray, List.set_cons_zero, List.set_cons_succ]
                refine Dp.wpAnyL_one 12 rfl (by kernel_rfl) (by rfl) (fun K hK => ?_)
                go_simp
                refine (HS.out _ hS9).mono ?_
                rintro e w10 ⟨rfl, k10⟩
                have hS10 := hS9.trans k10
                refine hK _ _ ⟨fun _ => hS10, ?_⟩
                clear hK K
                refine' Dp.wpAnyL_take 13 rfl (by kernel_rfl) (fun _ _ _ h => h) (by rfl) ?hyx13 hS10 ?restx13
                case hyx13 => intro wx hSx; go_simp; try with_reducible rfl
                simp only [Act.put, List.getElem_toArray, List.getElem_cons_zero, List.getElem_cons_succ, List.setIfInBounds_toArray, List.set_cons_zero, List.set_cons_succ]
                refine' Dp.wpAnyL_take 14 rfl (by kernel_rfl) (fun _ _ _ h => h) (by rfl) ?hyx14 hS10 ?restx14
                case hyx14 => intro wx hSx; go_simp; try with_reducible rfl
                simp only [Act.put, List.getElem_toArray, List.getElem_cons_zero, List.getElem_cons_succ, List.setIfInBounds_toArray, List.set_cons_zero, List.set_cons_succ]
                refine' Dp.wpAnyL_take 15 rfl (by kernel_rfl) (fun _ _ _ h => h) (by rfl) ?hyx15 hS10 ?restx15
                case hyx15 => intro wx hSx; go_simp; try with_reducible rfl
                simp only [Act.put, List.getElem_toArray, List.getElem_cons_zero, List.getElem_cons_succ, List.setIfInBounds_toArray, List.set_cons_zero, List.set_cons_succ]
                have HR10 := Hid.mk_ (Dp.row_nil (r9.keep k10 (fun e => e)))
                refine Dp.wpAnyL_one 17 rfl (by kernel_rfl) (by rfl) (fun K hK => ?_)
                refine Dp.wp_store_in 64 _ _ rfl w8.heap.size 0 rfl (Dp.verdictCells SK SK1 k true) rfl 64 [] (Dp.verdictCells 0 0 0 false) [] HR10.out rfl rfl (by rw [sizeVerdict]; rfl) (by intro v hv; simp [Dp.verdictCells] at hv; rcases hv with rfl | rfl | rfl | rfl <;> rfl) ?_
                intro w11 r11 z11 k11
                have hS11 : Dp.Keeps (fun _ => False) w8 w11 := hS10.next k11 (fun q hq e => by have := hS9.size; omega)
                refine hK _ _ ⟨fun _ => hS11, ?_⟩
                clear hK K
                refine Dp.wpAnyL_rest (by kernel_rfl) ?_
                refine Dp.wpAny_tail 18 rfl (by kernel_rfl) ?_
                simp only [List.drop_succ_cons, List.drop_zero]
                have HF : Hid (Dp.Row w11 w8.heap.size 64 (Dp.verdictCells SK SK1 k true) ∧ Dp.Keeps (fun _ => False) w8 w11) := ⟨by simpa using r11, hS11⟩
                clear r11 k11 k10 k9 hS9 hS10 hS11 HR10 r9 z11
                go_wp2
                go_meet
                case rel => exact ⟨w8.heap.size, rfl, Nat.le_refl _, rfl, HF.out.1, HF.out.2⟩
            case rest =>
              obtain ⟨TV, rfl, hTV, rfl, HRT, HKT⟩ := hcut
              have t0 : ∀ wx, Dp.Keeps (fun _ => False) wc wx → wx.cell? ⟨TV, 0, none⟩ = some (.int .i64 SK) := fun wx kx => (HRT.out.keep kx (fun e => e)).cell 0
              have t1 : ∀ wx, Dp.Keeps (fun _ => False) wc wx → wx.cell? ⟨TV, 1, none⟩ = some (.int .i64 SK1) := fun wx kx => (HRT.out.keep kx (fun e => e)).cell 1
              have t2 : ∀ wx, Dp.Keeps (fun _ => False) wc wx → wx.cell? ⟨TV, 2, none⟩ = some (.int .i64 k) := fun wx kx => (HRT.out.keep kx (fun e => e)).cell 2
              have t3 : ∀ wx, Dp.Keeps (fun _ => False) wc wx → wx.cell? ⟨TV, 3, none⟩ = some (.bool true) := fun wx kx => (HRT.out.keep kx (fun e => e)).cell 3
              have d0 : ∀ wx, Dp.Keeps (fun _ => False) wc wx → wx.cell? ⟨gr, k, none⟩ = some (.int .i64 SK) := fun wx kx => ck wx (HKT.out.trans kx)
              have d1 : ∀ wx, Dp.Keeps (fun _ => False) wc wx → wx.cell? ⟨gr, K1, none⟩ = some (.int .i64 SK1) := fun wx kx => cK wx (HKT.out.trans kx)
              have HKF := Hid.mk_ (HK8.out.trans HKT.out)
              have hS0 : Dp.Keeps (fun _ => False) wc wc.drew := (Dp.Keeps.refl _ _).drew
              have hK1w : IntKind.i64.wrap ((k : Int) + 1) = (K1 : Int) := by rw [IntWalk.i64_in _ (by omega)]; exact hK2
              have hk4 : (k : Int) < (P : Int) + 1 := by omega
              have hK4 : (K1 : Int) < (P : Int) + 1 := by omega
              clear hK2 c0 cP ck cK HS
              go_wp2
              refine Dp.wp_region_L (fun wx => Dp.Keeps (fun _ => False) wc wx) 35 mixedP ?_
              refine' Dp.wpAnyL_take 0 rfl (by kernel_rfl) (fun _ _ _ h => h) (by rfl) ?hyy0 hS0 ?resty0
              case hyy0 => intro wx hSx; go_simp; try with_reducible rfl
              simp only [Act.put, List.getElem_toArray, List.getElem_cons_zero, List.setIfInBounds_toArray, List.set_cons_zero, List.set_cons_succ]
              refine' Dp.wpAnyL_take 1 rfl (by kernel_rfl) (fun _ _ _ h => h) (by rfl) ?hyy1 hS0 ?resty1
              case hyy1 => intro wx hSx; go_simp; try with_reducible rfl
              simp only [Act.put, List.getElem_toArray, List.getElem_cons_zero, List.getElem_cons_succ, List.setIfInBounds_toArray, List.set_cons_zero, List.set_cons_succ]
              refine' Dp.wpAnyL_take 2 rfl (by kernel_rfl) (fun _ _ _ h => h) (by rfl) ?hyy2 hS0 ?resty2
              case hyy2 => intro wx hSx; go_simp; try with_reducible rfl
              simp only [Act.put, List.getElem_toArray, List.getElem_cons_zero, List.getElem_cons_succ, List.setIfInBounds_toArray, List.set_cons_zero, List.set_cons_succ]
              refine' Dp.wpAnyL_take 3 rfl (by kernel_rfl) (fun _ _ _ h => h) (by rfl) ?hyy3 hS0 ?resty3
              case hyy3 => intro wx hSx; go_simp; try with_reducible rfl
              simp only [Act.put, List.getElem_toArray, List.getElem_cons_zero, List.getElem_cons_succ, List.setIfInBounds_toArray, List.set_cons_zero, List.set_cons_succ]
              refine' Dp.wpAnyL_take 4 rfl (by kernel_rfl) (fun _ _ _ h => h) (by rfl) ?hyy4 hS0 ?resty4
              case hyy4 => intro wx hSx; go_simp; try with_reducible rfl
              simp only [Act.put, List.getElem_toArray, List.getElem_cons_zero, List.getElem_cons_succ, List.setIfInBounds_toArray, List.set_cons_zero, List.set_cons_succ]
              refine' Dp.wpAnyL_take 5 rfl (by kernel_rfl) (fun _ _ _ h => h) (by rfl) ?hyy5 hS0 ?resty5
              case hyy5 => intro wx hSx; go_simp; try with_reducible rfl
              simp only [Act.put, List.getElem_toArray, List.getElem_cons_zero, List.getElem_cons_succ, List.setIfInBounds_toArray, List.set_cons_zero, List.set_cons_succ]
              refine' Dp.wpAnyL_take 6 rfl (by kernel_rfl) (fun _ _ _ h => h) (by rfl) ?hyy6 hS0 ?resty6
              case hyy6 => intro wx hSx; go_simp; try with_reducible rfl
              simp only [Act.put, List.getElem_toArray, List.getElem_cons_zero, List.getElem_cons_succ, List.setIfInBounds_toArray, List.set_cons_zero, List.set_cons_succ]
              refine' Dp.wpAnyL_take 7 rfl (by kernel_rfl) (fun _ _ _ h => h) (by rfl) ?hyy7 hS0 ?resty7
              case hyy7 => intro wx hSx; go_simp; try with_reducible rfl
              simp only [Act.put, List.getElem_toArray, List.getElem_cons_zero, List.getElem_cons_succ, List.setIfInBounds_toArray, List.set_cons_zero, List.set_cons_succ]
              refine' Dp.wpAnyL_take 8 rfl (by kernel_rfl) (fun _ _ _ h => h) (by rfl) ?hyy8 hS0 ?resty8
              case hyy8 => intro wx hSx; go_simp; try with_reducible rfl
              simp only [Act.put, List.getElem_toArray, List.getElem_cons_zero, List.getElem_cons_succ, List.setIfInBounds_toArray, List.set_cons_zero, List.set_cons_succ]
              refine' Dp.wpAnyL_take 9 rfl (by kernel_rfl) (fun _ _ _ h => h) (by rfl) ?hyy9 hS0 ?resty9
              case hyy9 => intro wx hSx; go_simp; try with_reducible rfl
              simp only [Act.put, List.getElem_toArray, List.getElem_cons_zero, List.getElem_cons_succ, List.setIfInBounds_toArray, List.set_cons_zero, List.set_cons_succ]
              refine' Dp.wpAnyL_take 10 rfl (by kernel_rfl) (fun _ _ _ h => h) (by rfl) ?hyy10 hS0 ?resty10
              case hyy10 => intro wx hSx; go_simp; try with_reducible rfl
              simp only [Act.put, List.getElem_toArray, List.getElem_cons_zero, List.getElem_cons_succ, List.setIfInBounds_toArray, List.set_cons_zero, List.set_cons_succ]
              refine' Dp.wpAnyL_take 11 rfl (by kernel_rfl) (fun _ _ _ h => h) (by rfl) ?hyy11 hS0 ?resty11
              case hyy11 => intro wx hSx; go_simp; try with_reducible rfl
              simp only [Act.put, List.getElem_toArray, List.getElem_cons_zero, List.getElem_cons_succ, List.setIfInBounds_toArray, List.set_cons_zero, List.set_cons_succ]
              refine' Dp.wpAnyL_take 12 rfl (by kernel_rfl) (fun _ _ _ h => h) (by rfl) ?hyy12 hS0 ?resty12
              case hyy12 => intro wx hSx; go_simp; try with_reducible rfl
              simp only [Act.put, List.getElem_toArray, List.getElem_cons_zero, List.getElem_cons_succ, List.setIfInBounds_toArray, List.set_cons_zero, List.set_cons_succ]
              refine' Dp.wpAnyL_take 13 rfl (by kernel_rfl) (fun _ _ _ h => h) (by rfl) ?hyy13 hS0 ?resty13
              case hyy13 => intro wx hSx; go_simp; try with_reducible rfl
              simp only [Act.put, List.getElem_toArray, List.getElem_cons_zero, List.getElem_cons_succ, List.setIfInBounds_toArray, List.set_cons_zero, List.set_cons_succ]
              refine' Dp.wpAnyL_take 14 rfl (by kernel_rfl) (fun _ _ _ h => h) (by rfl) ?hyy14 hS0 ?resty14
              case hyy14 => intro wx hSx; go_simp; try with_reducible rfl
              simp only [Act.put, List.getElem_toArray, List.getElem_cons_zero, List.getElem_cons_succ, List.setIfInBounds_toArray, List.set_cons_zero, List.set_cons_succ]
              refine' Dp.wpAnyL_take 15 rfl (by kernel_rfl) (fun _ _ _ h => h) (by rfl) ?hyy15 hS0 ?resty15
              case hyy15 => intro wx hSx; go_simp; try with_reducible rfl
              simp only [Act.put, List.getElem_toArray, List.getElem_cons_zero, List.getElem_cons_succ, List.setIfInBounds_toArray, List.set_cons_zero, List.set_cons_succ]
              refine' Dp.wpAnyL_take 16 rfl (by kernel_rfl) (fun _ _ _ h => h) (by rfl) ?hyy16 hS0 ?resty16
              case hyy16 => intro wx hSx; go_simp; try with_reducible rfl
              simp only [Act.put, List.getElem_toArray, List.getElem_cons_zero, List.getElem_cons_succ, List.setIfInBounds_toArray, List.set_cons_zero, List.set_cons_succ]
              refine' Dp.wpAnyL_take 17 rfl (by kernel_rfl) (fun _ _ _ h => h) (by rfl) ?hyy17 hS0 ?resty17
              case hyy17 => intro wx hSx; go_simp; try with_reducible rfl
              simp only [Act.put, List.getElem_toArray, List.getElem_cons_zero, List.getElem_cons_succ, List.setIfInBounds_toArray, List.set_cons_zero, List.set_cons_succ]
              refine' Dp.wpAnyL_take 18 rfl (by kernel_rfl) (fun _ _ _ h => h) (by rfl) ?hyy18 hS0 ?resty18
              case hyy18 => intro wx hSx; go_simp; try with_reducible rfl
              simp only [Act.put, List.getElem_toArray, List.getElem_cons_zero, List.getElem_cons_succ, List.setIfInBounds_toArray, List.set_cons_zero, List.set_cons_succ]
              refine' Dp.wpAnyL_take 19 rfl (by kernel_rfl) (fun _ _ _ h => h) (by rfl) ?hyy19 hS0 ?resty19
              case hyy19 => intro wx hSx; go_simp; try with_reducible rfl
              simp only [Act.put, List.getElem_toArray, List.getElem_cons_zero, List.getElem_cons_succ, List.setIfInBounds_toArray, List.set_cons_zero, List.set_cons_succ]
              refine' Dp.wpAnyL_take 20 rfl (by kernel_rfl) (fun _ _ _ h => h) (by rfl) ?hyy20 hS0 ?resty20
              case hyy20 => intro wx hSx; go_simp; try with_reducible rfl
              simp only [Act.put, List.getElem_toArray, List.getElem_cons_zero, List.getElem_cons_succ, List.setIfInBounds_toArray, List.set_cons_zero, List.set_cons_succ]
              refine' Dp.wpAnyL_take 21 rfl (by kernel_rfl) (fun _ _ _ h => h) (by rfl) ?hyy21 hS0 ?resty21
              case hyy21 => intro wx hSx; go_simp; try with_reducible rfl
              simp only [Act.put, List.getElem_toArray, List.getElem_cons_zero, List.getElem_cons_succ, List.setIfInBounds_toArray, List.set_cons_zero, List.set_cons_succ]
              refine' Dp.wpAnyL_take 22 rfl (by kernel_rfl) (fun _ _ _ h => h) (by rfl) ?hyy22 hS0 ?resty22
              case hyy22 => intro wx hSx; go_simp; try with_reducible rfl
              simp only [Act.put, List.getElem_toArray, List.getElem_cons_zero, List.getElem_cons_succ, List.setIfInBounds_toArray, List.set_cons_zero, List.set_cons_succ]
              refine' Dp.wpAnyL_take 23 rfl (by kernel_rfl) (fun _ _ _ h => h) (by rfl) ?hyy23 hS0 ?resty23
              case hyy23 => intro wx hSx; go_simp; try with_reducible rfl
              simp only [Act.put, List.getElem_toArray, List.getElem_cons_zero, List.getElem_cons_succ, List.setIfInBounds_toArray, List.set_cons_zero, List.set_cons_succ]
              refine' Dp.wpAnyL_take 24 rfl (by kernel_rfl) (fun _ _ _ h => h) (by rfl) ?hyy24 hS0 ?resty24
              case hyy24 => intro wx hSx; go_simp; try with_reducible rfl
              simp only [Act.put, List.getElem_toArray, List.getElem_cons_zero, List.getElem_cons_succ, List.setIfInBounds_toArray, List.set_cons_zero, List.set_cons_succ]
              refine' Dp.wpAnyL_take 25 rfl (by kernel_rfl) (fun _ _ _ h => h) (by rfl) ?hyy25 hS0 ?resty25
              case hyy25 => intro wx hSx; go_simp; try with_reducible rfl
              simp only [Act.put, List.getElem_toArray, List.getElem_cons_zero, List.getElem_cons_succ, List.setIfInBounds_toArray, List.set_cons_zero, List.set_cons_succ]
              refine' Dp.wpAnyL_take 26 rfl (by kernel_rfl) (fun _ _ _ h => h) (by rfl) ?hyy26 hS0 ?resty26
              case hyy26 => intro wx hSx; go_simp; try with_reducible rfl
              simp only [Act.put, List.getElem_toArray, List.getElem_cons_zero, List.getElem_cons_succ, List.setIfInBounds_toArray, List.set_cons_zero, List.set_cons_succ]
              refine' Dp.wpAnyL_take 27 rfl (by kernel_rfl) (fun _ _ _ h => h) (by rfl) ?hyy27 hS0 ?resty27
              case hyy27 => intro wx hSx; go_simp; try with_reducible rfl
              simp only [Act.put, List.getElem_toArray, List.getElem_cons_zero, List.getElem_cons_succ, List.setIfInBounds_toArray, List.set_cons_zero, List.set_cons_succ]
              refine' Dp.wpAnyL_take 28 rfl (by kernel_rfl) (fun _ _ _ h => h) (by rfl) ?hyy28 hS0 ?resty28
              case hyy28 => intro wx hSx; go_simp; try with_reducible rfl
              simp only [Act.put, List.getElem_toArray, List.getElem_cons_zero, List.getElem_cons_succ, List.setIfInBounds_toArray, List.set_cons_zero, List.set_cons_succ]
              refine' Dp.wpAnyL_take 29 rfl (by kernel_rfl) (fun _ _ _ h => h) (by rfl) ?hyy29 hS0 ?resty29
              case hyy29 => intro wx hSx; go_simp; try with_reducible rfl
              simp only [Act.put, List.getElem_toArray, List.getElem_cons_zero, List.getElem_cons_succ, List.setIfInBounds_toArray, List.set_cons_zero, List.set_cons_succ]
              refine' Dp.wpAnyL_take (v := .int .i64 (K1 : Int)) 30 rfl (by kernel_rfl) (fun _ _ _ h => h) (by rfl) ?hyy30 hS0 ?resty30
              case hyy30 => intro wx hSx; go_simp; try rw [hK1w]
              simp only [Act.put, List.getElem_toArray, List.getElem_cons_zero, List.getElem_cons_succ, List.setIfInBounds_toArray, List.set_cons_zero, List.set_cons_succ]
              refine' Dp.wpAnyL_take 31 rfl (by kernel_rfl) (fun _ _ _ h => h) (by rfl) ?hyz31 hS0 ?restz31
              case hyz31 => intro wx hSx; go_simp; try with_reducible rfl
              simp only [Act.put, List.getElem_toArray, List.getElem_cons_zero, List.getElem_cons_succ, List.setIfInBounds_toArray, List.set_cons_zero, List.set_cons_succ]
              refine' Dp.wpAnyL_take 32 rfl (by kernel_rfl) (fun _ _ _ h => h) (by rfl) ?hyz32 hS0 ?restz32
              case hyz32 => intro wx hSx; go_simp; try with_reducible rfl
              simp only [Act.put, List.getElem_toArray, List.getElem_cons_zero, List.getElem_cons_succ, List.setIfInBounds_toArray, List.set_cons_zero, List.set_cons_succ]
              refine' Dp.wpAnyL_take 33 rfl (by kernel_rfl) (fun _ _ _ h => h) (by rfl) ?hyz33 hS0 ?restz33
              case hyz33 => intro wx hSx; go_simp; try with_reducible rfl
              simp only [Act.put, List.getElem_toArray, List.getElem_cons_zero, List.getElem_cons_succ, List.setIfInBounds_toArray, List.set_cons_zero, List.set_cons_succ]
              refine' Dp.wpAnyL_take 34 rfl (by kernel_rfl) (fun _ _ _ h => h) (by rfl) ?hyz34 hS0 ?restz34
              case hyz34 => intro wx hSx; go_simp; try with_reducible rfl
              simp only [Act.put, List.getElem_toArray, List.getElem_cons_zero, List.getElem_cons_succ, List.setIfInBounds_toArray, List.set_cons_zero, List.set_cons_succ]
              refine Dp.wpAnyL_rest (by kernel_rfl) ?_
              refine Dp.wpAny_tail 35 rfl (by kernel_rfl) ?_
              simp only [List.drop_succ_cons, List.drop_zero]
              go_wp2
              go_ret
              exact ⟨rfl, HKF.out.drew⟩
  · subst hnil
    have heq := fun wx => Lib.run_eql_slice_nil (P := Tryz.prog) wx 22 3 none 0 0 0 0 Tryz.underlying22
    go_wp2
    go_ret
    exact ⟨rfl, HK.out⟩
end Go.Proofs.YtdipojfngdceoaaGreatDoor
