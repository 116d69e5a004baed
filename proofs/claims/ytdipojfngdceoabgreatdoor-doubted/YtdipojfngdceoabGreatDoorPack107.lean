/- Steps on the way: KeepDoubted. -/
import Derived.Test.YtdipojfngdceoabGreatDoorPack106
/- One whose last stamp is wrong is not upheld: the walk. -/
namespace Go.Proofs.YtdipojfngdceoabGreatDoor
open Go.RowKit

set_option maxRecDepth 100000 in
set_option maxHeartbeats 4000000 in
theorem keepDoubted (w : World) (eb : Addr) (v vt vst : Value) (raw : List Int) (texts : List (List UInt8)) (ahead depth last : Int) (stamps : List Int) (wit : List UInt8) (forge : Int) (he : Dp.ErrAt w eb) (hW : Dp.IntsW w v raw) (h64 : ∀ x ∈ raw, -9223372036854775808 ≤ x ∧ x ≤ 9223372036854775807) (hT : Dp.TextsW w vt texts) (ha : -9223372036854775808 ≤ ahead ∧ ahead ≤ 9223372036854775807) (hdp : -9223372036854775808 ≤ depth ∧ depth ≤ 9223372036854775807) (hS : Dp.IntsW w vst stamps) (hwl : wit.length ≤ 9223372036854775807) (hfo : -9223372036854775808 ≤ forge ∧ forge ≤ 9223372036854775807) :
    Calls Tryz.prog 3 #[v, vt, .int .i64 ahead, .int .i64 depth, .int .i64 last, vst, .string (Dp.str wit), .int .i64 forge] w fun e w' => e = .returned (.bool true) ∧ Dp.Keeps (fun _ => False) w w' := by
  obtain ⟨lb, lo, lad, lcap, rfl, hll, hlne, hlc⟩ := hS
  have hll' : stamps.length ≤ 9223372036854775807 := by unfold maxLen at hll; omega
  have HLC := Hid.mk_ hlc
  have HLN := Hid.mk_ hlne
  have HE := Hid.mk_ he
  have HWI := Hid.mk_ hW
  have HTI := Hid.mk_ hT
  have H64 := Hid.mk_ h64
  clear he hll hlc hlne hW hT h64
  go_enter Tryz.func3, Tryz.ntmps3
  go_wp2_with fail
  refine (keepSure w eb HE.out).mono ?_
  rintro e w1 ⟨rfl, k1⟩
  have HK := Hid.mk_ k1
  clear k1
  go_wp2_with fail
  refine (keepPick depth 8 _ hdp (by omega) (by omega)).mono ?_
  rintro e w2 ⟨rfl, rfl⟩
  obtain ⟨D, hDe, hD⟩ : ∃ D : Nat, Dp.pickOf depth 8 = (D : Int) ∧ D ≤ 7 := ⟨(Dp.pickOf depth 8).toNat, by have := Dp.pickOf_bd depth 8 (by omega); omega, by have := Dp.pickOf_bd depth 8 (by omega); omega⟩
  rw [hDe]
  clear hDe hdp
  have hD0 : (0 : Int) ≤ D := by omega
  have hD7 : (D : Int) ≤ 7 := by omega
  go_wp2_with fail
  refine (keepRuns w2 v vt raw texts ahead D (HWI.out.still HK.out) H64.out (HTI.out.still HK.out) ha hD).mono ?_
  rintro e w3 ⟨⟨vr, rfl, hcase⟩, k3⟩
  replace HK := Hid.mk_ (HK.out.trans k3)
  clear k3
  go_wp2_with fail
  refine (keepOpened w3 v vt raw texts ahead (HWI.out.still HK.out) H64.out (HTI.out.still HK.out) ha).mono ?_
  rintro e w4 ⟨⟨b, vs, G, rfl, hb, hG, hM⟩, k4⟩
  have HM := Hid.mk_ hM
  have hbw : w.heap.size ≤ b := by have := HK.out.size; omega
  replace HK := Hid.mk_ (HK.out.trans k4)
  clear hM hG hb
  have HMM : Hid (∃ M, Dp.openedMach raw texts ahead = M) := ⟨_, rfl⟩
  obtain ⟨M, hMM⟩ := HMM.out
  clear HMM
  rw [hMM] at HM hcase
  have HMM := Hid.mk_ hMM
  clear hMM
  rcases hcase with ⟨hgo, ho3, _⟩ | hnil
  · have ho := ho3.keep k4 (fun _ _ e => e)
    obtain ⟨gr, cr, evr, hst⟩ := Dp.own_stamp ho (Nat.succ_pos _)
    subst evr
    obtain ⟨P, hP⟩ : ∃ P : Nat, P = 2 ^ D := ⟨_, rfl⟩
    have hPb : P ≤ 128 := by rw [hP]; exact Nat.pow_le_pow_right (n := 2) (i := D) (j := 7) (by decide) hD
    have HP := Hid.mk_ hP
    have HSH : Hid (∀ wx, (binOp .shl 3 (.int .i64 1) (.int .u64 (D : Int))).run Tryz.prog wx = .ok (.int .i64 (P : Int)) wx) := by
      intro wx; rw [hP]; exact shlRun D (by omega) wx
    have HGO := Hid.mk_ hgo
    have HOKM := Hid.mk_ HM.out.ok
    obtain ⟨B, hB⟩ : ∃ B : Nat, B = w4.heap.size := ⟨_, rfl⟩
    have hgrB : gr < B := by have h : gr < w4.heap.size := Dp.cell_lt (hst 0 (Nat.succ_pos _)); omega
    have hbB : b < B := by have := HM.out.row.lt; omega
    have HGB : Hid (∀ q, G q → q < B) := fun q hq => by have := (HM.out.own q hq).1; omega
    have hwB : w.heap.size ≤ B := by have := HK.out.size; omega
    have hPw : IntKind.i64.wrap (P : Int) = (P : Int) := IntWalk.i64_in _ (by omega)
    have hP5 : (P : Int) < (P : Int) + 1 := by omega
    have heq := fun wx => Lib.run_eql_slice_nil (P := Tryz.prog) wx 22 3 (some ⟨gr, 0, none⟩) (P + 1) cr 0 0 Tryz.underlying22
    have cP : w4.cell? ⟨gr, P, none⟩ = some (.int .i64 (Dp.stAt M P)) := hst P (by rw [hP]; exact Nat.lt_succ_self _)
    rw [← hP]
    by_cases hlast : last = Dp.stAt M P
    · subst hlast
      generalize Dp.stAt M P = SP at *
      clear hgo ho ho3 k4 hst HM hP hB
      go_wp2
      go_ret
      exact ⟨rfl, HK.out⟩
    · have HH : Hid (Dp.DouL w w4 B b G vs M D gr last [] 0 P (.slice none 0 0)) := by
        refine ⟨?_, ?_, ⟨rfl, .inl ⟨rfl, rfl⟩⟩, HM.out, hst, HK.out, by omega⟩
        · rw [hP]; exact Dp.Left2.start _ _ _
        · rw [Nat.zero_add, Dp.endsOf]; exact hlast
      generalize hSP : Dp.stAt M P = SP at *
      clear hgo ho ho3 k4 hst HM HK hP hB hSP
      go_wp2_with (refine Dp.wpList_binop rfl .shl 3 _ _ _ rfl (.int .i64 1) (.int .u64 (D : Int)) (.int .i64 P) rfl rfl rfl (HSH.out _) ?_; intro _)
      clear cP hPw hP5 heq hlast
      go_loopw [19, 20, 21, 22] (fun vm ia isz ii wr => ∃ (ms : List (Int × Bool)) (at_ sz : Nat), ms.length ≤ D ∧ ii = .int .i64 ms.length ∧ ia = .int .i64 at_ ∧ isz = .int .i64 sz ∧ Hid (Dp.DouL w wr B b G vs M D gr last ms at_ sz vm)) (fun _ _ _ ii _ => D - (intOf ii).toNat)
      case atStart => exact ⟨[], 0, P, Nat.zero_le _, rfl, rfl, rfl, HH⟩
      case round =>
        obtain ⟨ms, at_, sz, hml, rfl, rfl, rfl, HHr⟩ := hrel
        clear HH
        have hleP : at_ + sz ≤ P := by have h := HHr.out.left.le; rw [HP.out]; exact h
        by_cases hlt : ms.length < D
        · obtain ⟨q, hq⟩ : ∃ q : Nat, q = sz / 2 := ⟨_, rfl⟩
          have hq2 : (sz : Int) / 2 = (q : Int) := by omega
          obtain ⟨I1, hI⟩ : ∃ I1 : Nat, I1 = at_ + q := ⟨_, rfl⟩
          have hI2 : (at_ : Int) + (q : Int) = (I1 : Int) := by omega
          have hIb : I1 < P + 1 := by omega
          have HQ := Hid.mk_ hq
          have HI1 := Hid.mk_ hI
          have hlt' : (ms.length : Int) < (D : Int) := by omega
          obtain ⟨ST, hST⟩ : ∃ ST : Int, ST = Dp.stAt M I1 := ⟨_, rfl⟩
          have HST : Hid (ST = Dp.stAt M (at_ + sz / 2)) := by unfold Hid; rw [hST, hI, hq]
          have cst : wr.cell? ⟨gr, I1, none⟩ = some (.int .i64 ST) := by rw [hST]; exact HHr.out.st I1 (by rw [← HP.out]; exact hIb)
          have HW5 := Hid.mk_ HHr.out.keep
          clear hq hI hST
          by_cases hli : ms.length < stamps.length
          · obtain ⟨rfl, hlb⟩ := HLN.out (by intro e; simp [e] at hli)
            have hli' : (ms.length : Int) < (stamps.length : Int) := by omega
            have clf : wr.cell? ⟨lb, lo + ms.length, none⟩ = some (.int .i64 stamps[ms.length]) := (HW5.out.cell (p := ⟨lb, lo + ms.length, none⟩) hlb (fun e => e)).trans (HLC.out ms.length hli)
            generalize stamps[ms.length] = N at *
            by_cases hN : N = ST
            · obtain rfl : ST = N := hN.symm
              have kal1 := (Dp.Keeps.refl (fun _ => False) wr).alloc (.cells #[.int .i64 ST, .bool false] 32)
              have HR5 : Hid ((wr.alloc (.cells #[.int .i64 ST, .bool false] 32)).ownsRow B 32 2 u19 ms.length (Dp.mvCells ms)) := Dp.ownsRow_keep HHr.out.rows kal1 (fun _ _ e => e)
              have hB5 : B ≤ (wr.alloc (.cells #[.int .i64 ST, .bool false] 32)).heap.size := Nat.le_trans HHr.out.siz kal1.size
              have NW1 : Hid (∀ j u, [Value.int .i64 ST, Value.bool false][j]? = some u → (wr.alloc (.cells #[.int .i64 ST, .bool false] 32)).cell? ((⟨wr.heap.size, 0, none⟩ : Addr).add j) = some u) := fun j u h => by
                rw [Dp.add_zero_off]
                exact ((Dp.Row.allocNew wr 32 [.int .i64 ST, .bool false]).cell j).trans h
              have HKA := Hid.mk_ kal1
              clear kal1
              go_wp2_with (at_builtin; refine Dp.wpList_append_rows rfl _ _ 29 rfl B 32 (.agg #[.int .i64 0, .bool false]) 2 16 Tryz.underlying29 infoMove rfl (by omega) u19 ms.length (Dp.mvCells ms) rfl HR5.out ⟨wr.heap.size, 0, none⟩ 1 1 [.int .i64 ST, .bool false] rfl rfl NW1.out (fun x hx => by simp at hx; rcases hx with rfl | rfl <;> rfl) (by unfold maxLen; omega) (by omega) hB5 ?_)
              intro vm6 w6 rows6 k6
              have HN : Hid (Dp.DouL w w6 B b G vs M D gr last (ms ++ [(ST, false)]) I1 q vm6) := by
                have h := HHr.out.grow (lf := false) hwB hbB hgrB HGB.out (by rw [← HST.out]; simp) hlt HKA.out rows6 k6
                rw [← HQ.out] at h
                unfold Hid; simpa [HI1.out] using h
              clear rows6 k6 HR5 NW1 HKA HHr
              go_wp2
              go_roundw
              case rel => exact ⟨ms ++ [(ST, false)], I1, q, by rw [List.length_append]; simp; omega, by rw [List.length_append]; go_num, rfl, rfl, HN⟩
              case measure => simp [intOf]; omega
            · have hNb : (N != ST) = true := by simpa using hN
              have kal1 := (Dp.Keeps.refl (fun _ => False) wr).alloc (.cells #[.int .i64 N, .bool true] 32)
              have HR5 : Hid ((wr.alloc (.cells #[.int .i64 N, .bool true] 32)).ownsRow B 32 2 u19 ms.length (Dp.mvCells ms)) := Dp.ownsRow_keep HHr.out.rows kal1 (fun _ _ e => e)
              have hB5 : B ≤ (wr.alloc (.cells #[.int .i64 N, .bool true] 32)).heap.size := Nat.le_trans HHr.out.siz kal1.size
              have NW1 : Hid (∀ j u, [Value.int .i64 N, Value.bool true][j]? = some u → (wr.alloc (.cells #[.int .i64 N, .bool true] 32)).cell? ((⟨wr.heap.size, 0, none⟩ : Addr).add j) = some u) := fun j u h => by
                rw [Dp.add_zero_off]
                exact ((Dp.Row.allocNew wr 32 [.int .i64 N, .bool true]).cell j).trans h
              have HKA := Hid.mk_ kal1
              clear kal1
              go_wp2_with (at_builtin; refine Dp.wpList_append_rows rfl _ _ 29 rfl B 32 (.agg #[.int .i64 0, .bool false]) 2 16 Tryz.underlying29 infoMove rfl (by omega) u19 ms.length (Dp.mvCells ms) rfl HR5.out ⟨wr.heap.size, 0, none⟩ 1 1 [.int .i64 N, .bool true] rfl rfl NW1.out (fun x hx => by simp at hx; rcases hx with rfl | rfl <;> rfl) (by unfold maxLen; omega) (by omega) hB5 ?_)
              intro vm6 w6 rows6 k6
              have HN : Hid (Dp.DouL w w6 B b G vs M D gr last (ms ++ [(N, true)]) at_ q vm6) := by
                have h := HHr.out.grow (lf := true) hwB hbB hgrB HGB.out (by rw [← HST.out]; simp [hN]) hlt HKA.out rows6 k6
                rw [← HQ.out] at h
                unfold Hid; simpa [HI1.out] using h
              clear rows6 k6 HR5 NW1 HKA HHr
              go_wp2
              go_roundw
              case rel => exact ⟨ms ++ [(N, true)], at_, q, by rw [List.length_append]; simp; omega, by rw [List.length_append]; go_num, rfl, rfl, HN⟩
              case measure => simp [intOf]; omega
          · have hli' : ¬ (ms.length : Int) < (stamps.length : Int) := by omega
            have kal1 := (Dp.Keeps.refl (fun _ => False) wr).alloc (.cells #[.int .i64 ST, .bool false] 32)
            have HR5 : Hid ((wr.alloc (.cells #[.int .i64 ST, .bool false] 32)).ownsRow B 32 2 u19 ms.length (Dp.mvCells ms)) := Dp.ownsRow_keep HHr.out.rows kal1 (fun _ _ e => e)
            have hB5 : B ≤ (wr.alloc (.cells #[.int .i64 ST, .bool false] 32)).heap.size := Nat.le_trans HHr.out.siz kal1.size
            have NW1 : Hid (∀ j u, [Value.int .i64 ST, Value.bool false][j]? = some u → (wr.alloc (.cells #[.int .i64 ST, .bool false] 32)).cell? ((⟨wr.heap.size, 0, none⟩ : Addr).add j) = some u) := fun j u h => by
              rw [Dp.add_zero_off]
              exact ((Dp.Row.allocNew wr 32 [.int .i64 ST, .bool false]).cell j).trans h
            have HKA := Hid.mk_ kal1
            clear kal1
            go_wp2_with (at_builtin; refine Dp.wpList_append_rows rfl _ _ 29 rfl B 32 (.agg #[.int .i64 0, .bool false]) 2 16 Tryz.underlying29 infoMove rfl (by omega) u19 ms.length (Dp.mvCells ms) rfl HR5.out ⟨wr.heap.size, 0, none⟩ 1 1 [.int .i64 ST, .bool false] rfl rfl NW1.out (fun x hx => by simp at hx; rcases hx with rfl | rfl <;> rfl) (by unfold maxLen; omega) (by omega) hB5 ?_)
            intro vm6 w6 rows6 k6
            have HN : Hid (Dp.DouL w w6 B b G vs M D gr last (ms ++ [(ST, false)]) I1 q vm6) := by
              have h := HHr.out.grow (lf := false) hwB hbB hgrB HGB.out (by rw [← HST.out]; simp) hlt HKA.out rows6 k6
              rw [← HQ.out] at h
              unfold Hid; simpa [HI1.out] using h
            clear rows6 k6 HR5 NW1 HKA HHr
            go_wp2
            go_roundw
            case rel => exact ⟨ms ++ [(ST, false)], I1, q, by rw [List.length_append]; simp; omega, by rw [List.length_append]; go_num, rfl, rfl, HN⟩
            case measure => simp [intOf]; omega
        · have hlt' : ¬ (ms.length : Int) < (D : Int) := by omega
          have hDl : ms.length = D := by omega
          have hs1 : sz = 1 := by have h := HHr.out.left.siz; rw [hDl, Nat.sub_self] at h; simpa using h
          subst hs1
          have HDL := Hid.mk_ hDl
          clear hDl
          have HWr := Hid.mk_ HHr.out.keep
          go_wp2_with fail
          refine (keepOpened wr v vt raw texts ahead (HWI.out.still HWr.out) H64.out (HTI.out.still HWr.out) ha).mono ?_
          rintro e w5 ⟨⟨b2, vs2, G2, rfl, hb2, hG2, hM2⟩, k5⟩
          rw [HMM.out] at hM2
          have HM2 := Hid.mk_ hM2
          have HH5 := Hid.mk_ (HHr.out.still k5)
          have hb2B : B ≤ b2 := Nat.le_trans HHr.out.siz hb2
          have hb2g : gr ≠ b2 := by omega
          have HRB : Hid (∀ g, u19.ownBlock = some g → g ≠ b2) := fun g hg e => by
            obtain ⟨_, c, hc⟩ := Dp.rows_block HHr.out.rows g hg
            have := (Array.getElem?_eq_some_iff.1 hc).1
            omega
          clear hM2 k5 HHr HWr hb2 hG2
          go_wp2
          go_loopw [26] (fun ii wr2 => ∃ k : Nat, k ≤ at_ ∧ ii = .int .i64 k ∧ Hid (Dp.ProgM wr2 b2 G2 vs2 (Dp.Mach.after M k)) ∧ Hid (Dp.Keeps (fun k => k = b2) w5 wr2)) (fun ii _ => at_ - (intOf ii).toNat)
          case atStart => exact ⟨0, Nat.zero_le _, rfl, HM2.out, Dp.Keeps.refl _ _⟩
          case round =>
            obtain ⟨k, hk, rfl, HMk, HKk⟩ := hrel
            by_cases hka : k < at_
            · have h0 : (Dp.Mach.after M k).step.2 = 0 := HGO.out k (by have := HH5.out.left.le; omega)
              have hka' : (k : Int) < (at_ : Int) := by omega
              go_wp2_with fail
              refine (progMStep _ b2 G2 vs2 _ HMk.out).mono ?_
              rintro e w7 ⟨rfl, k7, hM7⟩
              rw [h0]
              have HM7 : Hid (Dp.ProgM w7 b2 G2 vs2 (Dp.Mach.after M (k + 1))) := hM7
              have HK7 := Hid.mk_ (HKk.out.trans k7)
              clear hM7 k7 HMk HKk h0
              go_wp2
              go_roundw
              case rel => exact ⟨k + 1, by omega, by go_num, HM7, HK7⟩
              case measure => simp [intOf]; omega
            · obtain rfl : k = at_ := by omega
              have hka' : ¬ (k : Int) < (k : Int) := by omega
              have h0 : (Dp.Mach.after M k).step.2 = 0 := HGO.out k (by have := HH5.out.left.le; omega)
              have HST7 : Hid (∀ i, i < P + 1 → wr.cell? ⟨gr, i, none⟩ = some (.int .i64 (Dp.stAt M i))) := fun i hi => by
                have h := HH5.out.st i (by rw [← HP.out]; exact hi)
                exact (HKk.out.cell (p := ⟨gr, i, none⟩) (Dp.cell_lt h) hb2g).trans h
              have HRW7 : Hid (wr.ownsRow B 32 2 u19 ms.length (Dp.mvCells ms)) := Dp.ownsRow_keep HH5.out.rows HKk.out (fun g hg e => HRB.out g hg e)
              have HK7 : Hid (Dp.Keeps (fun _ => False) w wr) := HH5.out.keep.next HKk.out (fun q hq e => by omega)
              have HL7 := Hid.mk_ HH5.out.left
              have HR7 := Hid.mk_ HH5.out.right
              clear HH5 HKk HM2
              have hb6 : b2 < wr.heap.size := HMk.out.row.lt
              go_wp2_with (refine Dp.wpList_toBytes rfl _ _ _ rfl Tryz.underlying9 Tryz.underlying35 Tryz.underlying5 wit rfl (by unfold maxLen; omega) ?_)
              intro cap6 w6 hc6 z6 k6
              have HC6 := Hid.mk_ hc6.cutting
              have HK6 := Hid.mk_ (HK7.out.trans k6)
              have HM6 := Hid.mk_ (HMk.out.keep k6 (fun e => e) (fun _ _ e => e))
              have HST6 : Hid (∀ i, i < P + 1 → w6.cell? ⟨gr, i, none⟩ = some (.int .i64 (Dp.stAt M i))) := fun i hi => (k6.cell (p := ⟨gr, i, none⟩) (Dp.cell_lt (HST7.out i hi)) (fun e => e)).trans (HST7.out i hi)
              have HRW6 := Hid.mk_ (Dp.ownsRow_keep HRW7.out k6 (fun _ _ e => e))
              clear hc6 k6 z6 HST7 HRW7 HK7 HMk hb6
              go_wp2_with fail
              refine (progMWitness _ b2 G2 vs2 _ HM6.out).mono ?_
              rintro e w8 ⟨v8, rfl, ho8, hf8, k8⟩
              rw [h0]
              have hwsm := Dp.witness_small (Dp.Mach.after M k) HM6.out.ok
              generalize Dp.witnessOf (Dp.Mach.after M k) = W at *
              obtain ⟨L, hL⟩ : ∃ L, L = W.length := ⟨_, rfl⟩
              have HWL : Hid (W.length = L) := hL.symm
              have hLb : L ≤ 400 := by rw [hL]; exact hwsm
              have HVL : Hid ((Dp.vals W).length = L) := by unfold Hid; rw [Dp.vals_length, hL]
              have HC8 := Hid.mk_ (HC6.out.still k8)
              have HK8 := Hid.mk_ k8
              have HO8 := Hid.mk_ ho8
              have HF8 := Hid.mk_ hf8
              obtain ⟨va8, vc8, ev8⟩ := ho8.isSlice
              rw [HVL.out] at ev8
              subst ev8
              clear hwsm hL k8 ho8 hf8 HC6
              go_upto_region 29 with (fail)
              go_cut [137] (fun t wx => ∃ c : Bool, t = .bool c ∧ Hid (c = true → 0 ≤ forge ∧ 67 ≤ L) ∧ w8 = wx)
              case first =>
                by_cases hf0 : forge < 0
                · have hf0' : ¬ (0 : Int) ≤ forge := by omega
                  have hfd : decide ((0 : Int) ≤ forge) = false := by simpa using hf0
                  go_wp2
                  go_meet
                  case rel => exact ⟨false, rfl, (fun e => by cases e), rfl⟩
                · have hf0' : (0 : Int) ≤ forge := by omega
                  by_cases h67 : L < 67
                  · have h67' : ¬ (67 : Int) ≤ (L : Int) := by omega
                    go_wp2
                    go_meet
                    case rel => exact ⟨false, rfl, (fun e => by cases e), rfl⟩
                  · have h67' : (67 : Int) ≤ (L : Int) := by omega
                    go_wp2
                    go_meet
                    case rel => exact ⟨true, rfl, (fun _ => ⟨hf0', by omega⟩), rfl⟩
              case rest =>
              obtain ⟨cb, rfl, HCB, rfl⟩ := hcut
              go_upto_if 137 with (fail)
              go_cut [27] (fun t wx => ∃ (W2 : List UInt8) (ad : Option Addr) (c : Nat), t = .slice ad W2.length c ∧ W2.length ≤ 9223372036854775807 ∧ Hid (Dp.Cutting wx (.slice ad W2.length c) W2) ∧ Hid (Dp.Keeps (fun q => w6.heap.size ≤ q) w8 wx))
              case first =>
                cases cb with
                | false =>
                  go_wp2
                  go_meet
                  case rel => exact ⟨wit, _, cap6, rfl, hwl, HC8, Dp.Keeps.refl _ _⟩
                | true =>
                    obtain ⟨hf0', h67⟩ := HCB.out rfl
                    have h67' : (67 : Int) ≤ (L : Int) := by omega
                    rcases HO8.out with ⟨_, hx⟩ | ⟨g, tail, hv5, hr5, htl⟩
                    · have := HVL.out; rw [hx] at this; simp at this; omega
                    rw [HVL.out] at hv5 htl
                    obtain ⟨rfl, rfl⟩ : va8 = some ⟨g, 0, none⟩ ∧ vc8 = L + tail.length := by simpa using hv5
                    have HRW := Hid.mk_ hr5
                    have hgw : w6.heap.size ≤ g := HF8.out g rfl
                    have HBY : Hid (∀ i, i < L → ∃ B : Int, (∀ wx, Dp.Keeps (fun _ => False) w8 wx → wx.cell? ⟨g, i, none⟩ = some (.int .u8 B)) ∧ (0 ≤ B ∧ B < 256)) := by
                      intro i hi
                      refine ⟨((W.getD i 0).toNat : Int), fun wx kx => ?_, ?_⟩
                      · rw [(HRW.out.keep kx (fun e => e)).cell, List.getElem?_append_left (by rw [HVL.out]; exact hi)]
                        have hi' : i < W.length := by rw [HWL.out]; exact hi
                        simp [Dp.vals, hi', List.getD_eq_getElem?_getD]
                      · have := (W.getD i 0).toNat_lt
                        omega
                    obtain ⟨B0, c0, b0b⟩ := HBY.out 47 (by omega)
                    obtain ⟨B1, c1, b1b⟩ := HBY.out 48 (by omega)
                    obtain ⟨B2, c2, b2b⟩ := HBY.out 49 (by omega)
                    obtain ⟨B3, c3, b3b⟩ := HBY.out 50 (by omega)
                    have x0 : IntKind.i64.wrap (B0 * 16777216) = B0 * 16777216 := IntWalk.i64_in _ (by omega)
                    have x1 : IntKind.i64.wrap (B1 * 65536) = B1 * 65536 := IntWalk.i64_in _ (by omega)
                    have x2 : IntKind.i64.wrap (B0 * 16777216 + B1 * 65536) = B0 * 16777216 + B1 * 65536 := IntWalk.i64_in _ (by omega)
                    have x3 : IntKind.i64.wrap (B2 * 256) = B2 * 256 := IntWalk.i64_in _ (by omega)
                    have x4 : IntKind.i64.wrap (B0 * 16777216 + B1 * 65536 + B2 * 256) = B0 * 16777216 + B1 * 65536 + B2 * 256 := IntWalk.i64_in _ (by omega)
                    have x5 : IntKind.i64.wrap (B0 * 16777216 + B1 * 65536 + B2 * 256 + B3) = B0 * 16777216 + B1 * 65536 + B2 * 256 + B3 := IntWalk.i64_in _ (by omega)
                    have y0 : IntKind.i64.wrap B0 = B0 := IntWalk.i64_in _ (by omega)
                    have y1 : IntKind.i64.wrap B1 = B1 := IntWalk.i64_in _ (by omega)
                    have y2 : IntKind.i64.wrap B2 = B2 := IntWalk.i64_in _ (by omega)
                    have y3 : IntKind.i64.wrap B3 = B3 := IntWalk.i64_in _ (by omega)
                    have hS5 : Dp.Keeps (fun _ => False) w8 w8.drew := (Dp.Keeps.refl _ _).drew
                    have hL0 : (47 : Int) < (L : Int) := by omega
                    have hL1 : (48 : Int) < (L : Int) := by omega
                    have hL2 : (49 : Int) < (L : Int) := by omega
                    have hL3 : (50 : Int) < (L : Int) := by omega
                    clear hr5 hv5 HO8 HF8 HC8
                    go_wp2
                    refine Dp.wp_region_L (fun wx => Dp.Keeps (fun _ => False) w8 wx) 23 mixedP ?_
                    refine' Dp.wpAnyL_take 0 rfl (by kernel_rfl) (fun _ _ _ h => h) (by rfl) ?hya0 hS5 ?resta0
                    case hya0 => intro wx hSx; go_simp; try with_reducible rfl
                    simp only [Act.put, List.getElem_toArray, List.getElem_cons_zero, List.setIfInBounds_toArray, List.set_cons_zero, List.set_cons_succ]
                    refine' Dp.wpAnyL_take 1 rfl (by kernel_rfl) (fun _ _ _ h => h) (by rfl) ?hya1 hS5 ?resta1
                    case hya1 => intro wx hSx; go_simp; try with_reducible rfl
                    simp only [Act.put, List.getElem_toArray, List.getElem_cons_zero, List.getElem_cons_succ, List.setIfInBounds_toArray, List.set_cons_zero, List.set_cons_succ]
                    refine' Dp.wpAnyL_take 2 rfl (by kernel_rfl) (fun _ _ _ h => h) (by rfl) ?hya2 hS5 ?resta2
                    case hya2 => intro wx hSx; go_simp; try with_reducible rfl
                    simp only [Act.put, List.getElem_toArray, List.getElem_cons_zero, List.getElem_cons_succ, List.setIfInBounds_toArray, List.set_cons_zero, List.set_cons_succ]
                    refine' Dp.wpAnyL_take 3 rfl (by kernel_rfl) (fun _ _ _ h => h) (by rfl) ?hya3 hS5 ?resta3
                    case hya3 => intro wx hSx; go_simp; try with_reducible rfl
                    simp only [Act.put, List.getElem_toArray, List.getElem_cons_zero, List.getElem_cons_succ, List.setIfInBounds_toArray, List.set_cons_zero, List.set_cons_succ]
                    refine' Dp.wpAnyL_take 4 rfl (by kernel_rfl) (fun _ _ _ h => h) (by rfl) ?hya4 hS5 ?resta4
                    case hya4 => intro wx hSx; go_simp; try with_reducible rfl
                    simp only [Act.put, List.getElem_toArray, List.getElem_cons_zero, List.getElem_cons_succ, List.setIfInBounds_toArray, List.set_cons_zero, List.set_cons_succ]
                    refine' Dp.wpAnyL_take 5 rfl (by kernel_rfl) (fun _ _ _ h => h) (by rfl) ?hya5 hS5 ?resta5
                    case hya5 => intro wx hSx; go_simp; try with_reducible rfl
                    simp only [Act.put, List.getElem_toArray, List.getElem_cons_zero, List.getElem_cons_succ, List.setIfInBounds_toArray, List.set_cons_zero, List.set_cons_succ]
                    refine' Dp.wpAnyL_take 6 rfl (by kernel_rfl) (fun _ _ _ h => h) (by rfl) ?hya6 hS5 ?resta6
                    case hya6 => intro wx hSx; go_simp; try with_reducible rfl
                    simp only [Act.put, List.getElem_toArray, List.getElem_cons_zero, List.getElem_cons_succ, List.setIfInBounds_toArray, List.set_cons_zero, List.set_cons_succ]
                    refine' Dp.wpAnyL_take 7 rfl (by kernel_rfl) (fun _ _ _ h => h) (by rfl) ?hya7 hS5 ?resta7
                    case hya7 => intro wx hSx; go_simp; try with_reducible rfl
                    simp only [Act.put, List.getElem_toArray, List.getElem_cons_zero, List.getElem_cons_succ, List.setIfInBounds_toArray, List.set_cons_zero, List.set_cons_succ]
                    refine' Dp.wpAnyL_take 8 rfl (by kernel_rfl) (fun _ _ _ h => h) (by rfl) ?hya8 hS5 ?resta8
                    case hya8 => intro wx hSx; go_simp; try with_reducible rfl
                    simp only [Act.put, List.getElem_toArray, List.getElem_cons_zero, List.getElem_cons_succ, List.setIfInBounds_toArray, List.set_cons_zero, List.set_cons_succ]
                    refine' Dp.wpAnyL_take 9 rfl (by kernel_rfl) (fun _ _ _ h => h) (by rfl) ?hya9 hS5 ?resta9
                    case hya9 => intro wx hSx; go_simp; try with_reducible rfl
                    simp only [Act.put, List.getElem_toArray, List.getElem_cons_zero, List.getElem_cons_succ, List.setIfInBounds_toArray, List.set_cons_zero, List.set_cons_succ]
                    refine' Dp.wpAnyL_take 10 rfl (by kernel_rfl) (fun _ _ _ h => h) (by rfl) ?hya10 hS5 ?resta10
                    case hya10 => intro wx hSx; go_simp; try with_reducible rfl
                    simp only [Act.put, List.getElem_toArray, List.getElem_cons_zero, List.getElem_cons_succ, List.setIfInBounds_toArray, List.set_cons_zero, List.set_cons_succ]
                    refine' Dp.wpAnyL_take 11 rfl (by kernel_rfl) (fun _ _ _ h => h) (by rfl) ?hya11 hS5 ?resta11
                    case hya11 => intro wx hSx; go_simp; try with_reducible rfl
                    simp only [Act.put, List.getElem_toArray, List.getElem_cons_zero, List.getElem_cons_succ, List.setIfInBounds_toArray, List.set_cons_zero, List.set_cons_succ]
                    refine' Dp.wpAnyL_take 12 rfl (by kernel_rfl) (fun _ _ _ h => h) (by rfl) ?hya12 hS5 ?resta12
                    case hya12 => intro wx hSx; go_simp; try with_reducible rfl
                    simp only [Act.put, List.getElem_toArray, List.getElem_cons_zero, List.getElem_cons_succ, List.setIfInBounds_toArray, List.set_cons_zero, List.set_cons_succ]
                    refine' Dp.wpAnyL_take 13 rfl (by kernel_rfl) (fun _ _ _ h => h) (by rfl) ?hya13 hS5 ?resta13
                    case hya13 => intro wx hSx; go_simp; try with_reducible rfl
                    simp only [Act.put, List.getElem_toArray, List.getElem_cons_zero, List.getElem_cons_succ, List.setIfInBounds_toArray, List.set_cons_zero, List.set_cons_succ]
                    refine' Dp.wpAnyL_take 14 rfl (by kernel_rfl) (fun _ _ _ h => h) (by rfl) ?hya14 hS5 ?resta14
                    case hya14 => intro wx hSx; go_simp; try with_reducible rfl
                    simp only [Act.put, List.getElem_toArray, List.getElem_cons_zero, List.getElem_cons_succ, List.setIfInBounds_toArray, List.set_cons_zero, List.set_cons_succ]
                    refine' Dp.wpAnyL_take 15 rfl (by kernel_rfl) (fun _ _ _ h => h) (by rfl) ?hya15 hS5 ?resta15
                    case hya15 => intro wx hSx; go_simp; try with_reducible rfl
                    simp only [Act.put, List.getElem_toArray, List.getElem_cons_zero, List.getElem_cons_succ, List.setIfInBounds_toArray, List.set_cons_zero, List.set_cons_succ]
                    refine' Dp.wpAnyL_take 16 rfl (by kernel_rfl) (fun _ _ _ h => h) (by rfl) ?hya16 hS5 ?resta16
                    case hya16 => intro wx hSx; go_simp; try with_reducible rfl
                    simp only [Act.put, List.getElem_toArray, List.getElem_cons_zero, List.getElem_cons_succ, List.setIfInBounds_toArray, List.set_cons_zero, List.set_cons_succ]
                    refine' Dp.wpAnyL_take 17 rfl (by kernel_rfl) (fun _ _ _ h => h) (by rfl) ?hya17 hS5 ?resta17
                    case hya17 => intro wx hSx; go_simp; try with_reducible rfl
                    simp only [Act.put, List.getElem_toArray, List.getElem_cons_zero, List.getElem_cons_succ, List.setIfInBounds_toArray, List.set_cons_zero, List.set_cons_succ]
                    refine' Dp.wpAnyL_take 18 rfl (by kernel_rfl) (fun _ _ _ h => h) (by rfl) ?hya18 hS5 ?resta18
                    case hya18 => intro wx hSx; go_simp; try with_reducible rfl
                    simp only [Act.put, List.getElem_toArray, List.getElem_cons_zero, List.getElem_cons_succ, List.setIfInBounds_toArray, List.set_cons_zero, List.set_cons_succ]
                    refine' Dp.wpAnyL_take 19 rfl (by kernel_rfl) (fun _ _ _ h => h) (by rfl) ?hya19 hS5 ?resta19
                    case hya19 => intro wx hSx; go_simp; try with_reducible rfl
                    simp only [Act.put, List.getElem_toArray, List.getElem_cons_zero, List.getElem_cons_succ, List.setIfInBounds_toArray, List.set_cons_zero, List.set_cons_succ]
                    refine' Dp.wpAnyL_take 20 rfl (by kernel_rfl) (fun _ _ _ h => h) (by rfl) ?hya20 hS5 ?resta20
                    case hya20 => intro wx hSx; go_simp; try with_reducible rfl
                    simp only [Act.put, List.getElem_toArray, List.getElem_cons_zero, List.getElem_cons_succ, List.setIfInBounds_toArray, List.set_cons_zero, List.set_cons_succ]
                    refine' Dp.wpAnyL_take 21 rfl (by kernel_rfl) (fun _ _ _ h => h) (by rfl) ?hya21 hS5 ?resta21
                    case hya21 => intro wx hSx; go_simp; try with_reducible rfl
                    simp only [Act.put, List.getElem_toArray, List.getElem_cons_zero, List.getElem_cons_succ, List.setIfInBounds_toArray, List.set_cons_zero, List.set_cons_succ]
                    refine' Dp.wpAnyL_take 22 rfl (by kernel_rfl) (fun _ _ _ h => h) (by rfl) ?hya22 hS5 ?resta22
                    case hya22 => intro wx hSx; go_simp; try with_reducible rfl
                    simp only [Act.put, List.getElem_toArray, List.getElem_cons_zero, List.getElem_cons_succ, List.setIfInBounds_toArray, List.set_cons_zero, List.set_cons_succ]
                    refine Dp.wpAnyL_rest (by kernel_rfl) ?_
                    refine Dp.wpAny_tail 23 rfl (by kernel_rfl) ?_
                    simp only [List.drop_succ_cons, List.drop_zero]
                    have hwd : Dp.isWord (B0 * 16777216 + B1 * 65536 + B2 * 256 + B3) := by unfold Dp.isWord; omega
                    clear x0 x1 x2 x3 x4 x5 y0 y1 y2 y3 c0 c1 c2 c3
                    generalize hWS : B0 * 16777216 + B1 * 65536 + B2 * 256 + B3 = WS at *
                    clear hWS
                    obtain ⟨F, hF, hFl⟩ : ∃ F : Nat, forge % 256 = (F : Int) ∧ F < 256 := ⟨(forge % 256).toNat, by omega, by omega⟩
                    have hFt : Int.tmod forge 256 = (F : Int) := by rw [Int.tmod_eq_emod_of_nonneg hf0']; exact hF
                    go_wp2_with fail
                    refine (keepTwin _ WS F hwd hFl).mono ?_
                    rintro e w9 ⟨⟨t, rfl, htw⟩, k9⟩
                    have htb : 0 ≤ t ∧ t < 4294967296 := htw.word
                    have k89 := hS5.trans k9
                    have HR9 := Hid.mk_ (HRW.out.keep k89 (fun e => e))
                    have cl : ∀ i, i < L → ∃ u, w9.cell? ⟨g, i, none⟩ = some u := fun i hi => ⟨_, HR9.out.cellAt i (by rw [List.length_append, HVL.out]; omega)⟩
                    obtain ⟨u0, d0⟩ := cl 47 (by omega)
                    obtain ⟨u1, d1⟩ := cl 48 (by omega)
                    obtain ⟨u2, d2⟩ := cl 49 (by omega)
                    obtain ⟨u3, d3⟩ := cl 50 (by omega)
                    have f0 := HR9.out.frozen 47
                    have f1 := HR9.out.frozen 48
                    have f2 := HR9.out.frozen 49
                    have f3 := HR9.out.frozen 50
                    have HRF : Hid (Dp.Row ((((w9.setCell ⟨g, 47, none⟩ (.int .u8 (t / 16777216))).setCell ⟨g, 48, none⟩ (.int .u8 (t / 65536 % 256))).setCell ⟨g, 49, none⟩ (.int .u8 (t / 256 % 256))).setCell ⟨g, 50, none⟩ (.int .u8 (t % 256))) g 5 (Dp.vals (Dp.setWord W 47 t) ++ tail)) := by
                      have h := (((HR9.out.set 47 (.int .u8 (t / 16777216))).set 48 (.int .u8 (t / 65536 % 256))).set 49 (.int .u8 (t / 256 % 256))).set 50 (.int .u8 (t % 256))
                      rw [List.set_append_left _ _ (by rw [HVL.out]; omega), Dp.vals_set _ _ _ (by omega), List.set_append_left _ _ (by rw [Dp.vals_length, List.length_set, HWL.out]; omega), Dp.vals_set _ _ _ (by omega), List.set_append_left _ _ (by rw [Dp.vals_length, List.length_set, List.length_set, HWL.out]; omega), Dp.vals_set _ _ _ (by omega), List.set_append_left _ _ (by rw [Dp.vals_length, List.length_set, List.length_set, List.length_set, HWL.out]; omega), Dp.vals_set _ _ _ (by omega)] at h
                      exact h
                    have kst : Dp.Keeps (fun q => q = g) w9 ((((w9.setCell ⟨g, 47, none⟩ (.int .u8 (t / 16777216))).setCell ⟨g, 48, none⟩ (.int .u8 (t / 65536 % 256))).setCell ⟨g, 49, none⟩ (.int .u8 (t / 256 % 256))).setCell ⟨g, 50, none⟩ (.int .u8 (t % 256))) :=
                      ((((Dp.Keeps.refl (fun q => q = g) w9).setCell (p := ⟨g, 47, none⟩) (.inr rfl) _).setCell (p := ⟨g, 48, none⟩) (.inr rfl) _).setCell (p := ⟨g, 49, none⟩) (.inr rfl) _).setCell (p := ⟨g, 50, none⟩) (.inr rfl) _
                    have HKF : Hid (Dp.Keeps (fun q => w6.heap.size ≤ q) w8 _) := (k89.mono (fun _ _ e => e.elim)).next kst (fun q _ e => by omega)
                    have HLL : Hid ((Dp.setWord W 47 t).length = L) := by unfold Hid; rw [Dp.setWord_length, HWL.out]
                    have HCU8 := Hid.mk_ (Dp.own_cutting (show Dp.Own _ 5 (.slice (some ⟨g, 0, none⟩) (Dp.setWord W 47 t).length (L + tail.length)) (Dp.vals (Dp.setWord W 47 t)) from .inr ⟨g, tail, by rw [Dp.vals_length, HLL.out], HRF.out, by rw [Dp.vals_length, HLL.out]; exact htl⟩))
                    clear kst k89 k9 htw cl HRF
                    go_wp2
                    go_meet
                    case rel => exact ⟨Dp.setWord W 47 t, some ⟨g, 0, none⟩, L + tail.length, by rw [HLL.out], by rw [HLL.out]; omega, HCU8, HKF⟩
              case rest =>
                obtain ⟨W2, ad2, cc2, rfl, hW2, HCU, HKW⟩ := hcut
                have HKA : Hid (Dp.Keeps (fun q => w6.heap.size ≤ q) w6 wc) := (HK8.out.mono (fun _ _ e => e.elim)).trans HKW.out
                have HKc : Hid (Dp.Keeps (fun _ => False) w wc) := HK6.out.next HKA.out (fun q hq e => by have := HK6.out.size; omega)
                have HSTc : Hid (∀ i, i < P + 1 → wc.cell? ⟨gr, i, none⟩ = some (.int .i64 (Dp.stAt M i))) := fun i hi => (HKA.out.cell (p := ⟨gr, i, none⟩) (Dp.cell_lt (HST6.out i hi)) (fun e => by have : gr < w6.heap.size := Dp.cell_lt (HST6.out i hi); have e' : w6.heap.size ≤ gr := e; omega)).trans (HST6.out i hi)
                have HRWc : Hid (wc.ownsRow B 32 2 u19 ms.length (Dp.mvCells ms)) := Dp.ownsRow_keep HRW6.out HKA.out (fun g hg e => by
                  obtain ⟨_, c, hc⟩ := Dp.rows_block HRW6.out g hg
                  have := (Array.getElem?_eq_some_iff.1 hc).1
                  omega)
                have HMc : Hid (Dp.ProgM wc b2 G2 vs2 (Dp.Mach.after M k)) := HM6.out.keep HKA.out (fun e => by have := HM6.out.row.lt; omega) (fun q hq e => by have := (HM6.out.own q hq).1; omega)
                have HMV := Hid.mk_ (Dp.moves_of_rows HRWc.out (by omega))
                obtain ⟨T, up, hset, hTne, hcol⟩ := Dp.settled_wrong D hD M HGO.out last ms HDL.out k HL7.out HR7.out W2
                have HSET := Hid.mk_ hset
                have HCOL := Hid.mk_ hcol
                obtain ⟨K1, hK1⟩ : ∃ K1 : Nat, K1 = k + 1 := ⟨_, rfl⟩
                have hK2 : (k : Int) + 1 = (K1 : Int) := by omega
                have hK3 : K1 < P + 1 := by have := HL7.out.le; rw [HP.out]; omega
                have hk3 : k < P + 1 := by omega
                rw [← hK1] at hTne
                clear hK1 hset hcol HM6 HST6 HRW6 HK8 HKA HKW HL7 HR7
                obtain ⟨S0, hS0e⟩ : ∃ x : Int, x = Dp.stAt M 0 := ⟨_, rfl⟩
                obtain ⟨SK, hSK⟩ : ∃ x : Int, x = Dp.stAt M k := ⟨_, rfl⟩
                obtain ⟨SK1, hSK1⟩ : ∃ x : Int, x = Dp.stAt M K1 := ⟨_, rfl⟩
                rw [← hS0e, ← hSK] at HSET
                rw [← hSK1] at hTne
                have hTb : (T == SK1) = false := by simpa using hTne
                have c0 : wc.cell? ⟨gr, 0, none⟩ = some (.int .i64 S0) := by rw [hS0e]; exact HSTc.out 0 (by omega)
                have CKK : Hid (wc.cell? ⟨gr, k, none⟩ = some (.int .i64 SK) ∧ wc.cell? ⟨gr, K1, none⟩ = some (.int .i64 SK1)) := ⟨by rw [hSK]; exact HSTc.out k hk3, by rw [hSK1]; exact HSTc.out K1 hK3⟩
                obtain ⟨mva, mvc, emv⟩ : ∃ a c, u19 = .slice a ms.length c := by obtain ⟨_, _, a, c, e, _⟩ := HMV.out; exact ⟨a, c, e⟩
                subst emv
                clear hS0e hSK hSK1 HSTc HRWc
                go_wp2_with fail
                refine (progSettle wc eb D S0 last _ ms ad2 cc2 W2 (HE.out.keep HKc.out) HMV.out HCU.out hW2).mono ?_
                rintro e w9 ⟨rfl, k9⟩
                rw [HSET.out]
                have HK9 := Hid.mk_ k9
                clear k9 c0
                go_wp2_with (refine Dp.wpList_alloc_row rfl 39 rfl _ zeroVerdict ?_)
                intro w10 r10 z10 k10
                have HR10 := Hid.mk_ (Dp.row_nil r10)
                have HK10 := Hid.mk_ (HK9.out.trans k10)
                clear r10 k10
                go_wp2_with (refine Dp.wpList_store_in rfl 39 _ _ rfl w9.heap.size 0 rfl (Dp.verdictCells SK T k up) rfl 39 [] (Dp.verdictCells 0 0 0 false) [] HR10.out rfl rfl (by rw [sizeVerdict]; rfl) (by intro v hv; simp [Dp.verdictCells] at hv; rcases hv with rfl | rfl | rfl | rfl <;> rfl) ?_)
                intro w11 r11 z11 k11
                have HRT : Hid (Dp.Row w11 w9.heap.size 39 (Dp.verdictCells SK T k up)) := by unfold Hid; simpa using r11
                have HKT : Hid (Dp.Keeps (fun _ => False) wc w11) := HK10.out.next k11 (fun q hq e => by have := HK9.out.size; omega)
                clear r11 k11 z10 z11 HR10 HK10 HK9
                generalize w9.heap.size = TV at *
                have t0 : ∀ wx, Dp.Keeps (fun _ => False) w11 wx → wx.cell? ⟨TV, 0, none⟩ = some (.int .i64 SK) := fun wx kx => (HRT.out.keep kx (fun e => e)).cell 0
                have t1 : ∀ wx, Dp.Keeps (fun _ => False) w11 wx → wx.cell? ⟨TV, 1, none⟩ = some (.int .i64 T) := fun wx kx => (HRT.out.keep kx (fun e => e)).cell 1
                have t2 : ∀ wx, Dp.Keeps (fun _ => False) w11 wx → wx.cell? ⟨TV, 2, none⟩ = some (.int .i64 k) := fun wx kx => (HRT.out.keep kx (fun e => e)).cell 2
                have d0 : ∀ wx, Dp.Keeps (fun _ => False) w11 wx → wx.cell? ⟨gr, k, none⟩ = some (.int .i64 SK) := fun wx kx => ((HKT.out.trans kx).cell (p := ⟨gr, k, none⟩) (Dp.cell_lt CKK.out.1) (fun e => e)).trans CKK.out.1
                have d1 : ∀ wx, Dp.Keeps (fun _ => False) w11 wx → wx.cell? ⟨gr, K1, none⟩ = some (.int .i64 SK1) := fun wx kx => ((HKT.out.trans kx).cell (p := ⟨gr, K1, none⟩) (Dp.cell_lt CKK.out.2) (fun e => e)).trans CKK.out.2
                have hS0 : Dp.Keeps (fun _ => False) w11 w11.drew := (Dp.Keeps.refl _ _).drew
                have hK1w : IntKind.i64.wrap ((k : Int) + 1) = (K1 : Int) := by rw [IntWalk.i64_in _ (by omega)]; exact hK2
                have hk4 : (k : Int) < (P : Int) + 1 := by omega
                have hK4 : (K1 : Int) < (P : Int) + 1 := by omega
                have t3 : w11.drew.cell? ⟨TV, 3, none⟩ = some (.bool up) := (HRT.out.keep hS0 (fun e => e)).cell 3
                have HMF := Hid.mk_ (HMc.out.keep (HKT.out.trans hS0) (fun e => e) (fun _ _ e => e))
                have HKF := Hid.mk_ (HKc.out.trans (HKT.out.trans hS0))
                have HCF := Hid.mk_ (HCU.out.still (HKT.out.trans hS0))
                clear hK2 hTne HMc HKc HCU HMV HSET
                go_wp2
                refine Dp.wp_region_L (fun wx => Dp.Keeps (fun _ => False) w11 wx) 27 mixedP ?_
                refine' Dp.wpAnyL_take 0 rfl (by kernel_rfl) (fun _ _ _ h => h) (by rfl) ?hyy0 hS0 ?resty0
                case hyy0 => intro wx hSx; go_simp; try with_reducible rfl
                simp only [Act.put, List.getElem_toArray, List.getElem_cons_zero, List.setIfInBounds_toArray, List.set_cons_zero, List.set_cons_succ]
                refine' Dp.wpAnyL_take 1 rfl (by kernel_rfl) (fun _ _ _ h => h) (by rfl) ?hyy1 hS0 ?resty1
                case hyy1 => intro wx hSx; go_simp; try with_reducible rfl
                simp only [Act.put, List.getElem_toArray, List.getElem_cons_zero, List.getElem_cons_succ, List.setIfInBounds_toArray, List.set_cons_zero, List.set_cons_succ]
                refine' Dp.wpAnyL_take 2 rfl (by kernel_rfl) (fun _ _ _ h => h) (by rfl) ?hyy2 hS0 ?resty2
                case hyy2 => intro wx hSx; go_simp; try with_reducible rfl
                simp only [Act.put, List.getElem_toArray, List.getElem_cons_zero, List.getElem_cons_succ, List.setIfInBounds_toArray, List.set_cons_zero, List.set_cons_succ]
                refine' Dp.wpAnyL_take 3 rfl (by kernel_rfl) (fun _ _ _ h => h) (by rfl) ?hyy3 hS0 ?resty3
                case hyy3 => intro wx hSx; go_simp; try with_reducible rfl
                simp only [Act.put, List.getElem_toArray, List.getElem_cons_zero, List.getElem_cons_succ, List.setIfInBounds_toArray, List.set_cons_zero, List.set_cons_succ]
                refine' Dp.wpAnyL_take 4 rfl (by kernel_rfl) (fun _ _ _ h => h) (by rfl) ?hyy4 hS0 ?resty4
                case hyy4 => intro wx hSx; go_simp; try with_reducible rfl
                simp only [Act.put, List.getElem_toArray, List.getElem_cons_zero, List.getElem_cons_succ, List.setIfInBounds_toArray, List.set_cons_zero, List.set_cons_succ]
                refine' Dp.wpAnyL_take 5 rfl (by kernel_rfl) (fun _ _ _ h => h) (by rfl) ?hyy5 hS0 ?resty5
                case hyy5 => intro wx hSx; go_simp; try with_reducible rfl
                simp only [Act.put, List.getElem_toArray, List.getElem_cons_zero, List.getElem_cons_succ, List.setIfInBounds_toArray, List.set_cons_zero, List.set_cons_succ]
                refine' Dp.wpAnyL_take 6 rfl (by kernel_rfl) (fun _ _ _ h => h) (by rfl) ?hyy6 hS0 ?resty6
                case hyy6 => intro wx hSx; go_simp; try with_reducible rfl
                simp only [Act.put, List.getElem_toArray, List.getElem_cons_zero, List.getElem_cons_succ, List.setIfInBounds_toArray, List.set_cons_zero, List.set_cons_succ]
                refine' Dp.wpAnyL_take 7 rfl (by kernel_rfl) (fun _ _ _ h => h) (by rfl) ?hyy7 hS0 ?resty7
                case hyy7 => intro wx hSx; go_simp; try with_reducible rfl
                simp only [Act.put, List.getElem_toArray, List.getElem_cons_zero, List.getElem_cons_succ, List.setIfInBounds_toArray, List.set_cons_zero, List.set_cons_succ]
                refine' Dp.wpAnyL_take 8 rfl (by kernel_rfl) (fun _ _ _ h => h) (by rfl) ?hyy8 hS0 ?resty8
                case hyy8 => intro wx hSx; go_simp; try with_reducible rfl
                simp only [Act.put, List.getElem_toArray, List.getElem_cons_zero, List.getElem_cons_succ, List.setIfInBounds_toArray, List.set_cons_zero, List.set_cons_succ]
                refine' Dp.wpAnyL_take 9 rfl (by kernel_rfl) (fun _ _ _ h => h) (by rfl) ?hyy9 hS0 ?resty9
                case hyy9 => intro wx hSx; go_simp; try with_reducible rfl
                simp only [Act.put, List.getElem_toArray, List.getElem_cons_zero, List.getElem_cons_succ, List.setIfInBounds_toArray, List.set_cons_zero, List.set_cons_succ]
                refine' Dp.wpAnyL_take 10 rfl (by kernel_rfl) (fun _ _ _ h => h) (by rfl) ?hyy10 hS0 ?resty10
                case hyy10 => intro wx hSx; go_simp; try with_reducible rfl
                simp only [Act.put, List.getElem_toArray, List.getElem_cons_zero, List.getElem_cons_succ, List.setIfInBounds_toArray, List.set_cons_zero, List.set_cons_succ]
                refine' Dp.wpAnyL_take 11 rfl (by kernel_rfl) (fun _ _ _ h => h) (by rfl) ?hyy11 hS0 ?resty11
                case hyy11 => intro wx hSx; go_simp; try with_reducible rfl
                simp only [Act.put, List.getElem_toArray, List.getElem_cons_zero, List.getElem_cons_succ, List.setIfInBounds_toArray, List.set_cons_zero, List.set_cons_succ]
                refine' Dp.wpAnyL_take 12 rfl (by kernel_rfl) (fun _ _ _ h => h) (by rfl) ?hyy12 hS0 ?resty12
                case hyy12 => intro wx hSx; go_simp; try with_reducible rfl
                simp only [Act.put, List.getElem_toArray, List.getElem_cons_zero, List.getElem_cons_succ, List.setIfInBounds_toArray, List.set_cons_zero, List.set_cons_succ]
                refine' Dp.wpAnyL_take 13 rfl (by kernel_rfl) (fun _ _ _ h => h) (by rfl) ?hyy13 hS0 ?resty13
                case hyy13 => intro wx hSx; go_simp; try with_reducible rfl
                simp only [Act.put, List.getElem_toArray, List.getElem_cons_zero, List.getElem_cons_succ, List.setIfInBounds_toArray, List.set_cons_zero, List.set_cons_succ]
                refine' Dp.wpAnyL_take 14 rfl (by kernel_rfl) (fun _ _ _ h => h) (by rfl) ?hyy14 hS0 ?resty14
                case hyy14 => intro wx hSx; go_simp; try with_reducible rfl
                simp only [Act.put, List.getElem_toArray, List.getElem_cons_zero, List.getElem_cons_succ, List.setIfInBounds_toArray, List.set_cons_zero, List.set_cons_succ]
                refine' Dp.wpAnyL_take 15 rfl (by kernel_rfl) (fun _ _ _ h => h) (by rfl) ?hyy15 hS0 ?resty15
                case hyy15 => intro wx hSx; go_simp; try with_reducible rfl
                simp only [Act.put, List.getElem_toArray, List.getElem_cons_zero, List.getElem_cons_succ, List.setIfInBounds_toArray, List.set_cons_zero, List.set_cons_succ]
                refine' Dp.wpAnyL_take 16 rfl (by kernel_rfl) (fun _ _ _ h => h) (by rfl) ?hyy16 hS0 ?resty16
                case hyy16 => intro wx hSx; go_simp; try with_reducible rfl
                simp only [Act.put, List.getElem_toArray, List.getElem_cons_zero, List.getElem_cons_succ, List.setIfInBounds_toArray, List.set_cons_zero, List.set_cons_succ]
                refine' Dp.wpAnyL_take 17 rfl (by kernel_rfl) (fun _ _ _ h => h) (by rfl) ?hyy17 hS0 ?resty17
                case hyy17 => intro wx hSx; go_simp; try with_reducible rfl
                simp only [Act.put, List.getElem_toArray, List.getElem_cons_zero, List.getElem_cons_succ, List.setIfInBounds_toArray, List.set_cons_zero, List.set_cons_succ]
                refine' Dp.wpAnyL_take 18 rfl (by kernel_rfl) (fun _ _ _ h => h) (by rfl) ?hyy18 hS0 ?resty18
                case hyy18 => intro wx hSx; go_simp; try with_reducible rfl
                simp only [Act.put, List.getElem_toArray, List.getElem_cons_zero, List.getElem_cons_succ, List.setIfInBounds_toArray, List.set_cons_zero, List.set_cons_succ]
                refine' Dp.wpAnyL_take 19 rfl (by kernel_rfl) (fun _ _ _ h => h) (by rfl) ?hyy19 hS0 ?resty19
                case hyy19 => intro wx hSx; go_simp; try with_reducible rfl
                simp only [Act.put, List.getElem_toArray, List.getElem_cons_zero, List.getElem_cons_succ, List.setIfInBounds_toArray, List.set_cons_zero, List.set_cons_succ]
                refine' Dp.wpAnyL_take 20 rfl (by kernel_rfl) (fun _ _ _ h => h) (by rfl) ?hyy20 hS0 ?resty20
                case hyy20 => intro wx hSx; go_simp; try with_reducible rfl
                simp only [Act.put, List.getElem_toArray, List.getElem_cons_zero, List.getElem_cons_succ, List.setIfInBounds_toArray, List.set_cons_zero, List.set_cons_succ]
                refine' Dp.wpAnyL_take 21 rfl (by kernel_rfl) (fun _ _ _ h => h) (by rfl) ?hyy21 hS0 ?resty21
                case hyy21 => intro wx hSx; go_simp; try with_reducible rfl
                simp only [Act.put, List.getElem_toArray, List.getElem_cons_zero, List.getElem_cons_succ, List.setIfInBounds_toArray, List.set_cons_zero, List.set_cons_succ]
                refine' Dp.wpAnyL_take (v := .int .i64 (K1 : Int)) 22 rfl (by kernel_rfl) (fun _ _ _ h => h) (by rfl) ?hyy22 hS0 ?resty22
                case hyy22 => intro wx hSx; go_simp; try rw [hK1w]
                simp only [Act.put, List.getElem_toArray, List.getElem_cons_zero, List.getElem_cons_succ, List.setIfInBounds_toArray, List.set_cons_zero, List.set_cons_succ]
                refine' Dp.wpAnyL_take 23 rfl (by kernel_rfl) (fun _ _ _ h => h) (by rfl) ?hyz23 hS0 ?restz23
                case hyz23 => intro wx hSx; go_simp; try with_reducible rfl
                simp only [Act.put, List.getElem_toArray, List.getElem_cons_zero, List.getElem_cons_succ, List.setIfInBounds_toArray, List.set_cons_zero, List.set_cons_succ]
                refine' Dp.wpAnyL_take 24 rfl (by kernel_rfl) (fun _ _ _ h => h) (by rfl) ?hyz24 hS0 ?restz24
                case hyz24 => intro wx hSx; go_simp; try with_reducible rfl
                simp only [Act.put, List.getElem_toArray, List.getElem_cons_zero, List.getElem_cons_succ, List.setIfInBounds_toArray, List.set_cons_zero, List.set_cons_succ]
                refine' Dp.wpAnyL_take 25 rfl (by kernel_rfl) (fun _ _ _ h => h) (by rfl) ?hyz25 hS0 ?restz25
                case hyz25 => intro wx hSx; go_simp; try with_reducible rfl
                simp only [Act.put, List.getElem_toArray, List.getElem_cons_zero, List.getElem_cons_succ, List.setIfInBounds_toArray, List.set_cons_zero, List.set_cons_succ]
                refine' Dp.wpAnyL_take 26 rfl (by kernel_rfl) (fun _ _ _ h => h) (by rfl) ?hyz26 hS0 ?restz26
                case hyz26 => intro wx hSx; go_simp; try with_reducible rfl
                simp only [Act.put, List.getElem_toArray, List.getElem_cons_zero, List.getElem_cons_succ, List.setIfInBounds_toArray, List.set_cons_zero, List.set_cons_succ]
                refine Dp.wpAnyL_rest (by kernel_rfl) ?_
                refine Dp.wpAny_tail 27 rfl (by kernel_rfl) ?_
                simp only [List.drop_succ_cons, List.drop_zero]
                clear t0 t1 t2 d0 d1
                cases up with
                | false =>
                  go_wp2
                  go_ret
                  exact ⟨rfl, HKF.out⟩
                | true =>
                  go_wp2_with fail
                  refine (progMCollision _ eb b2 G2 vs2 _ HMF.out ad2 cc2 W2 (HE.out.keep HKF.out) HCF.out hW2).mono ?_
                  rintro e w12 ⟨k12, hcase⟩
                  rcases hcase with ⟨hno, _⟩ | ⟨_, a1, a2, A1, A2, rfl, htwo⟩
                  · exact absurd (HCOL.out trivial) hno
                  have HTW := Hid.mk_ htwo
                  have HK12 := Hid.mk_ (HKF.out.trans k12)
                  clear htwo k12
                  go_wp2_with fail
                  refine (keepShown _ _ _ A1 A2 (Dp.own_bytes HTW.out.own1) (Dp.own_bytes HTW.out.own2) HTW.out.ne HTW.out.sum).mono ?_
                  rintro e w13 ⟨rfl, k13⟩
                  have HK13 := Hid.mk_ (HK12.out.trans k13)
                  clear k13
                  go_wp2
                  go_ret
                  exact ⟨rfl, HK13.out⟩
  · subst hnil
    have heq := fun wx => Lib.run_eql_slice_nil (P := Tryz.prog) wx 22 3 none 0 0 0 0 Tryz.underlying22
    go_wp2
    go_ret
    exact ⟨rfl, HK.out⟩
end Go.Proofs.YtdipojfngdceoabGreatDoor
