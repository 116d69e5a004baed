/- Steps on the way: LawSettles. -/
import Derived.Test.YtdipojfngdceoaaDoorPack46
import Derived.Test.YtdipojfngdceoaaDoorPack58
import Derived.Test.YtdipojfngdceoaaDoorPack64
import Derived.Test.YtdipojfngdceoaaDoorPack65
import Derived.Test.YtdipojfngdceoaaDoorPack66
/- The law of settling: 'Settles' answers true of every dispute. -/
namespace Go.Proofs.YtdipojfngdceoaaDoor
open Go.RowKit

namespace Dp
def mvCells : List (Int × Bool) → List Value
  | [] => []
  | m :: ms => .int .i64 m.1 :: .bool m.2 :: mvCells ms
theorem numFrom_bd16 (ms : List (Int × Bool)) (h : ms.length ≤ 16) : 0 ≤ numFrom ms 0 ∧ numFrom ms 0 ≤ 65536 := by
  have hb := numFrom_bd ms 0 0 (Int.le_refl _) (by decide)
  have hp : (2 : Int) ^ (0 + ms.length) = ((2 ^ ms.length : Nat) : Int) := by rw [Nat.zero_add]; push_cast; rfl
  have h16 : 2 ^ ms.length ≤ 2 ^ 16 := Nat.pow_le_pow_right (by decide) h
  rw [hp] at hb
  omega
theorem mvCells_length : ∀ ms : List (Int × Bool), (mvCells ms).length = ms.length * 2
  | [] => rfl
  | m :: ms => by simp only [mvCells, List.length_cons, mvCells_length ms]; omega
theorem mvCells_fst : ∀ (ms : List (Int × Bool)) (i : Nat) (h : i < ms.length), (mvCells ms)[i * 2]? = some (.int .i64 ms[i].1)
  | [], i, h => absurd h (by simp)
  | m :: ms, 0, h => rfl
  | m :: ms, i + 1, h => by
    rw [show (i + 1) * 2 = i * 2 + 1 + 1 by omega]
    simpa [mvCells] using mvCells_fst ms i (by simpa using h)
theorem mvCells_snd : ∀ (ms : List (Int × Bool)) (i : Nat) (h : i < ms.length), (mvCells ms)[i * 2 + 1]? = some (.bool ms[i].2)
  | [], i, h => absurd h (by simp)
  | m :: ms, 0, h => rfl
  | m :: ms, i + 1, h => by
    rw [show (i + 1) * 2 + 1 = i * 2 + 1 + 1 + 1 by omega]
    simpa [mvCells] using mvCells_snd ms i (by simpa using h)
theorem mvCells_one : ∀ (ms : List (Int × Bool)), ∀ v ∈ mvCells ms, v.oneCell' = true
  | [], v, h => absurd h (by simp [mvCells])
  | m :: ms, v, h => by
    simp only [mvCells, List.mem_cons] at h
    rcases h with rfl | rfl | h
    · rfl
    · rfl
    · exact mvCells_one ms v h
theorem mvCells_inv (ms : List (Int × Bool)) (j : Nat) (v : Value) (h : (mvCells ms)[j]? = some v) : ∃ i, ∃ hi : i < ms.length, (j = i * 2 ∧ v = .int .i64 ms[i].1) ∨ (j = i * 2 + 1 ∧ v = .bool ms[i].2) := by
  have hj := (List.getElem?_eq_some_iff.1 h).1
  rw [mvCells_length] at hj
  have hi : j / 2 < ms.length := by omega
  refine ⟨j / 2, hi, ?_⟩
  rcases (by omega : j = j / 2 * 2 ∨ j = j / 2 * 2 + 1) with e | e
  · left; refine ⟨e, ?_⟩
    have := mvCells_fst ms (j / 2) hi
    rw [← e, h] at this
    exact Option.some.inj this
  · right; refine ⟨e, ?_⟩
    have := mvCells_snd ms (j / 2) hi
    rw [← e, h] at this
    exact Option.some.inj this
end Dp
theorem infoMove : (Tryd.prog.info? 69).map (fun i => (i.zero, i.size, i.bytes)) = some (some (.agg #[.int .i64 0, .bool false]), 2, 16) := by kernel_rfl

set_option maxRecDepth 100000 in
set_option maxHeartbeats 2000000 in
theorem lawSettles (w : World) (eb : Addr) (depth first last : Int) (vm : Value) (ms : List (Int × Bool)) (l : List UInt8) (he : Dp.ErrAt w eb) (hm : Dp.Moves w vm ms) (hl : l.length ≤ 16777216) :
    Calls Tryd.prog 7 #[.int .i64 depth, .int .i64 first, .int .i64 last, vm, .string (Dp.str l)] w fun e w' => e = .returned (.bool true) ∧ Dp.Keeps (fun _ => False) w w' := by
  have hsz := Dp.str_size l
  have hm' := hm
  obtain ⟨mb, mo, mad, mcap, rfl, hml, hmne, hmc⟩ := hm'
  have HM := Hid.mk_ hm
  have HMC := Hid.mk_ hmc
  have HMN := Hid.mk_ hmne
  have HML := Hid.mk_ (Dp.mvCells_length ms)
  have HPL := Hid.mk_ (Dp.pairs_length (.int .i64 0) (.bool false) (ms.length + 1))
  clear hmc hmne hm
  go_enter Tryd.func7, Tryd.ntmps7
  go_wp2_with (at_make; refine Dp.wpList_make_pairs _ rfl _ _ 61 rfl 69 (.int .i64 0) (.bool false) 16 Tryd.underlying61 infoMove _ _ _ _ (ms.length + 1) rfl rfl (by omega) (by omega) (by omega) (by unfold maxLen; omega) ?_)
  intro w1 r1 z1 k1
  have HR1 := Hid.mk_ r1
  have HCP : Hid (0 < (Dp.mvCells ms).length → ∃ ad, mad = some ad ∧ ∀ j v, (Dp.mvCells ms)[j]? = some v → w1.cell? (ad.add j) = some v) := by
    intro h0
    have hne : ms ≠ [] := fun e => by rw [e] at h0; simp [Dp.mvCells] at h0
    refine ⟨_, HMN.out hne, fun j v hj => ?_⟩
    have hadd : (⟨mb, mo, none⟩ : Addr).add j = ⟨mb, mo + j, none⟩ := by unfold Addr.add; split <;> simp_all
    rw [hadd]
    obtain ⟨i, hi, ⟨rfl, rfl⟩ | ⟨rfl, rfl⟩⟩ := Dp.mvCells_inv ms j v hj
    · have h := (HMC.out i hi).1
      exact (k1.cell (p := ⟨mb, mo + i * 2, none⟩) (Dp.cell_lt h) (fun e => e)).trans h
    · have h := (HMC.out i hi).2
      exact (k1.cell (p := ⟨mb, mo + (i * 2 + 1), none⟩) (Dp.cell_lt h) (fun e => e)).trans h
  clear r1
  go_wp2_with (refine Dp.wpList_copy_wide rfl _ _ 61 61 rfl 69 2 Tryd.underlying61 sizeMove w.heap.size (ms.length + 1) (ms.length + 1) mad ms.length mcap rfl rfl 69 (Dp.mvCells ms) (Dp.pairs (.int .i64 0) (.bool false) (ms.length + 1)) HR1.out HML.out (by omega) (by rw [HML.out, HPL.out]; omega) (Dp.mvCells_one _) HCP.out ?_)
  intro w2 r2 z2 k2
  rw [HML.out, Dp.pairs_last] at r2
  have HR2 := Hid.mk_ r2
  have HK2 : Hid (Dp.Keeps (fun _ => False) w w2) := k1.next k2 (fun i hi e => by omega)
  clear r2 k2 k1 HCP HR1 HPL
  have z2' : w2.heap.size = w.heap.size + 1 := by omega
  clear z1 z2
  go_wp2_with (refine Dp.wpList_box_row rfl 29 _ rfl [.slice none 0 0, .slice none 0 0, .slice none 0 0, .slice none 0 0, .slice none 0 0, .slice none 0 0] rfl ?_)
  intro w3 r3 z3 k3
  go_wp2_with fail
  refine (lent_any (Dp.str l) _ (by rw [hsz]; exact hl)).mono ?_
  rintro e w4 ⟨rfl, r4, z4, k4⟩
  rw [Dp.str_data] at r4
  rw [hsz]
  have z3' : w3.heap.size = w.heap.size + 1 + 1 := by omega
  rw [z3'] at r4 ⊢
  have k24 := k3.trans k4
  have HRL := Hid.mk_ (HR2.out.keep k24 (fun e => e))
  have HRW := Hid.mk_ (r3.keep k4 (fun e => e))
  have HRB := Hid.mk_ r4
  have HK4 := Hid.mk_ (HK2.out.trans k24)
  have z4' : w4.heap.size = w.heap.size + 1 + 1 + 1 := by omega
  have HMV : Hid (Dp.Moves w4 (.slice (some ⟨w.heap.size, 0, none⟩) ms.length (ms.length + 1)) ms) := by
    refine ⟨w.heap.size, 0, _, _, rfl, hml, fun _ => rfl, fun i hi => ⟨?_, ?_⟩⟩
    · rw [HRL.out.cell, List.getElem?_append_left (by rw [HML.out]; omega), Nat.zero_add]
      exact Dp.mvCells_fst ms i hi
    · rw [HRL.out.cell, List.getElem?_append_left (by rw [HML.out]; omega), Nat.zero_add]
      exact Dp.mvCells_snd ms i hi
  have HCU : Hid (Dp.Cutting w4 (.slice (some ⟨w.heap.size + 1 + 1, 0, none⟩) l.length (l.length + 2)) l) := by
    refine ⟨some ⟨w.heap.size + 1 + 1, 0, none⟩, l.length + 2, rfl, by omega, by unfold maxLen; omega, fun _ => ⟨w.heap.size + 1 + 1, 0, rfl, fun j hj => ?_⟩⟩
    have h := Dp.vals_cell r4 j hj
    rw [Dp.add_zero_off] at h
    rw [Nat.zero_add]; exact h
  have he4 := he.keep HK4.out
  have HS : Hid (∀ wx, Dp.Keeps (fun _ => False) w4 wx → Calls Tryd.prog 25 #[.int .i64 depth, .int .i64 first, .int .i64 last, .slice (some ⟨w.heap.size, 0, none⟩) ms.length (ms.length + 1), .slice (some ⟨w.heap.size + 1 + 1, 0, none⟩) l.length (l.length + 2)] wx fun e w' => e = .returned (.tuple #[.agg (Dp.settled depth first last ms l).1.toArray, .int .i64 (Dp.settled depth first last ms l).2]) ∧ Dp.Keeps (fun _ => False) wx w') :=
    fun wx kx => progSettle wx eb depth first last _ ms _ _ l (he4.keep kx) (HMV.out.keep kx) (HCU.out.still kx) hl
  have HV : Hid (∃ a b n up, (Dp.settled depth first last ms l).1 = Dp.verdictCells a b n up) := Dp.settled_cells _ _ _ _ _
  have Z4 := Hid.mk_ z4'
  clear r3 r4 k3 k4 k24 z3 z4 z2' z3' z4' HR2 HK2 HCU HMV he4
  generalize hST : Dp.settled depth first last ms l = ST at *
  have HST := Hid.mk_ hST
  clear hST
  go_upto_region 5 with (fail)
  go_cut [14, 15] (fun t r wx => ∃ T, t = .pointer (some ⟨T, 0, none⟩) ∧ w4.heap.size ≤ T ∧ r = .int .i64 ST.2 ∧ Dp.Row wx T 64 ST.1 ∧ Dp.Keeps (fun _ => False) w4 wx)
  case first =>
    have hgl : (l.length : Int) ≤ (l.length : Int) + 2 := by omega
    have hgm : (ms.length : Int) ≤ (ms.length : Int) + 1 := by omega
    have hS0 : Dp.Keeps (fun _ => False) w4 w4.drew := (Dp.Keeps.refl _ _).drew
    refine wp_region_any mixedP ?_
    refine' Dp.wpAny_pure 0 rfl (by kernel_rfl) (fun _ _ _ h => h) (.inl ⟨by rfl, ?hpa0⟩) ?pesta0
    case hpa0 => intro wx; go_simp; try with_reducible rfl
    simp only [Act.put, List.getElem_toArray, List.getElem_cons_zero, List.setIfInBounds_toArray, List.set_cons_zero, List.set_cons_succ]
    refine' Dp.wpAny_pure 1 rfl (by kernel_rfl) (fun _ _ _ h => h) (.inl ⟨by rfl, ?hpa1⟩) ?pesta1
    case hpa1 => intro wx; go_simp; try with_reducible rfl
    simp only [Act.put, List.getElem_toArray, List.getElem_cons_zero, List.getElem_cons_succ, List.setIfInBounds_toArray, List.set_cons_zero, List.set_cons_succ]
    refine' Dp.wpAny_pure 2 rfl (by kernel_rfl) (fun _ _ _ h => h) (.inl ⟨by rfl, ?hpa2⟩) ?pesta2
    case hpa2 => intro wx; go_simp; try with_reducible rfl
    simp only [Act.put, List.getElem_toArray, List.getElem_cons_zero, List.getElem_cons_succ, List.setIfInBounds_toArray, List.set_cons_zero, List.set_cons_succ]
    refine' Dp.wpAny_pure 3 rfl (by kernel_rfl) (fun _ _ _ h => h) (.inl ⟨by rfl, ?hpa3⟩) ?pesta3
    case hpa3 => intro wx; go_simp; try with_reducible rfl
    simp only [Act.put, List.getElem_toArray, List.getElem_cons_zero, List.getElem_cons_succ, List.setIfInBounds_toArray, List.set_cons_zero, List.set_cons_succ]
    refine' Dp.wpAny_pure 4 rfl (by kernel_rfl) (fun _ _ _ h => h) (.inl ⟨by rfl, ?hpa4⟩) ?pesta4
    case hpa4 => intro wx; go_simp; try with_reducible rfl
    simp only [Act.put, List.getElem_toArray, List.getElem_cons_zero, List.getElem_cons_succ, List.setIfInBounds_toArray, List.set_cons_zero, List.set_cons_succ]
    refine' Dp.wpAny_pure 5 rfl (by kernel_rfl) (fun _ _ _ h => h) (.inl ⟨by rfl, ?hpa5⟩) ?pesta5
    case hpa5 => intro wx; go_simp; try with_reducible rfl
    simp only [Act.put, List.getElem_toArray, List.getElem_cons_zero, List.getElem_cons_succ, List.setIfInBounds_toArray, List.set_cons_zero, List.set_cons_succ]
    refine' Dp.wpAny_pure 6 rfl (by kernel_rfl) (fun _ _ _ h => h) (.inl ⟨by rfl, ?hpa6⟩) ?pesta6
    case hpa6 => intro wx; go_simp; try with_reducible rfl
    simp only [Act.put, List.getElem_toArray, List.getElem_cons_zero, List.getElem_cons_succ, List.setIfInBounds_toArray, List.set_cons_zero, List.set_cons_succ]
    refine' Dp.wpAny_pure 7 rfl (by kernel_rfl) (fun _ _ _ h => h) (.inl ⟨by rfl, ?hpa7⟩) ?pesta7
    case hpa7 => intro wx; go_simp; try with_reducible rfl
    simp only [Act.put, List.getElem_toArray, List.getElem_cons_zero, List.getElem_cons_succ, List.setIfInBounds_toArray, List.set_cons_zero, List.set_cons_succ]
    refine' Dp.wpAny_pure 8 rfl (by kernel_rfl) (fun _ _ _ h => h) (.inl ⟨by rfl, ?hpa8⟩) ?pesta8
    case hpa8 => intro wx; go_simp; try with_reducible rfl
    simp only [Act.put, List.getElem_toArray, List.getElem_cons_zero, List.getElem_cons_succ, List.setIfInBounds_toArray, List.set_cons_zero, List.set_cons_succ]
    refine' Dp.wpAny_pure 9 rfl (by kernel_rfl) (fun _ _ _ h => h) (.inl ⟨by rfl, ?hpa9⟩) ?pesta9
    case hpa9 => intro wx; go_simp; try with_reducible rfl
    simp only [Act.put, List.getElem_toArray, List.getElem_cons_zero, List.getElem_cons_succ, List.setIfInBounds_toArray, List.set_cons_zero, List.set_cons_succ]
    refine' Dp.wpAny_pure 10 rfl (by kernel_rfl) (fun _ _ _ h => h) (.inl ⟨by rfl, ?hpa10⟩) ?pesta10
    case hpa10 => intro wx; go_simp; try with_reducible rfl
    simp only [Act.put, List.getElem_toArray, List.getElem_cons_zero, List.getElem_cons_succ, List.setIfInBounds_toArray, List.set_cons_zero, List.set_cons_succ]
    refine Dp.wpAny_of_L (S := fun _ => True) (n := 15) _ _ _ _ ?_
    obtain ⟨S1, S2⟩ := ST
    obtain ⟨qa, qb, qn, qu, e1⟩ := HV.out
    have e1' : S1 = Dp.verdictCells qa qb qn qu := e1
    subst e1'
    clear e1 HV
    refine Dp.wpAnyL_both 11 15 rfl rfl (by kernel_rfl) (by rfl) (by rfl) (fun K hK => ?_) (fun K hK => ?_)
    · go_simp
      refine (HS.out _ hS0).mono ?_
      rintro e w5 ⟨rfl, k5⟩
      have hS5 := hS0.trans k5
      refine hK _ _ ⟨fun _ => trivial, Dp.wpAnyL_true _ _ _ _ ?_⟩
      clear hK K
      refine' Dp.wpAny_pure 12 rfl (by kernel_rfl) (fun _ _ _ h => h) (.inl ⟨by rfl, ?hpb12⟩) ?pestb12
      case hpb12 => intro wx; go_simp; try with_reducible rfl
      simp only [Act.put, List.getElem_toArray, List.getElem_cons_zero, List.getElem_cons_succ, List.setIfInBounds_toArray, List.set_cons_zero, List.set_cons_succ]
      refine' Dp.wpAny_pure 13 rfl (by kernel_rfl) (fun _ _ _ h => h) (.inl ⟨by rfl, ?hpb13⟩) ?pestb13
      case hpb13 => intro wx; go_simp; try with_reducible rfl
      simp only [Act.put, List.getElem_toArray, List.getElem_cons_zero, List.getElem_cons_succ, List.setIfInBounds_toArray, List.set_cons_zero, List.set_cons_succ]
      refine' Dp.wpAny_pure 14 rfl (by kernel_rfl) (fun _ _ _ h => h) (.inl ⟨by rfl, ?hpb14⟩) ?pestb14
      case hpb14 => intro wx; go_simp; try with_reducible rfl
      simp only [Act.put, List.getElem_toArray, List.getElem_cons_zero, List.getElem_cons_succ, List.setIfInBounds_toArray, List.set_cons_zero, List.set_cons_succ]
      refine Dp.wpAny_tail 15 rfl (by kernel_rfl) ?_
      simp only [List.drop_succ_cons, List.drop_zero]
      refine Dp.wpList_alloc_row rfl 64 rfl _ zeroVerdict ?_
      intro w6 r6 z6 k6
      have HR6 := Hid.mk_ (Dp.row_nil r6)
      clear r6
      go_wp2_with (refine Dp.wpList_store_in rfl 64 _ _ rfl w5.heap.size 0 rfl (Dp.verdictCells qa qb qn qu) rfl 64 [] (Dp.verdictCells 0 0 0 false) [] HR6.out rfl rfl (by rw [sizeVerdict]; rfl) (by intro v hv; simp [Dp.verdictCells] at hv; rcases hv with rfl | rfl | rfl | rfl <;> rfl) ?_)
      intro w7 r7 z7 k7
      have h5 : w4.heap.size ≤ w5.heap.size := hS5.size
      have HF : Hid (Dp.Row w7 w5.heap.size 64 (Dp.verdictCells qa qb qn qu) ∧ Dp.Keeps (fun _ => False) w4 w7) := ⟨by simpa using r7, (hS5.trans k6).next k7 (fun q hq e => by omega)⟩
      clear r7 k7 k6 k5 hS5 HR6 z6 z7
      go_wp2
      go_meet
      case rel => exact ⟨w5.heap.size, rfl, h5, rfl, HF.out.1, HF.out.2⟩
    · refine Dp.wp_alloc_row 64 rfl _ zeroVerdict ?_
      intro w5 r5 z5 k5
      have hS5 := hS0.trans k5
      refine hK _ _ ⟨fun _ => trivial, ?_⟩
      clear hK K
      simp only [Act.put, List.getElem_toArray, List.getElem_cons_zero, List.getElem_cons_succ, List.setIfInBounds_toArray, List.set_cons_zero, List.set_cons_succ]
      refine Dp.wpAnyL_one 11 rfl (by kernel_rfl) (by rfl) (fun K hK => ?_)
      go_simp
      refine (HS.out _ hS5).mono ?_
      rintro e w6 ⟨rfl, k6⟩
      refine hK _ _ ⟨fun _ => trivial, Dp.wpAnyL_true _ _ _ _ ?_⟩
      clear hK K
      refine' Dp.wpAny_pure 12 rfl (by kernel_rfl) (fun _ _ _ h => h) (.inl ⟨by rfl, ?hpc12⟩) ?pestc12
      case hpc12 => intro wx; go_simp; try with_reducible rfl
      simp only [Act.put, List.getElem_toArray, List.getElem_cons_zero, List.getElem_cons_succ, List.setIfInBounds_toArray, List.set_cons_zero, List.set_cons_succ]
      refine' Dp.wpAny_pure 13 rfl (by kernel_rfl) (fun _ _ _ h => h) (.inl ⟨by rfl, ?hpc13⟩) ?pestc13
      case hpc13 => intro wx; go_simp; try with_reducible rfl
      simp only [Act.put, List.getElem_toArray, List.getElem_cons_zero, List.getElem_cons_succ, List.setIfInBounds_toArray, List.set_cons_zero, List.set_cons_succ]
      refine' Dp.wpAny_pure 14 rfl (by kernel_rfl) (fun _ _ _ h => h) (.inl ⟨by rfl, ?hpc14⟩) ?pestc14
      case hpc14 => intro wx; go_simp; try with_reducible rfl
      simp only [Act.put, List.getElem_toArray, List.getElem_cons_zero, List.getElem_cons_succ, List.setIfInBounds_toArray, List.set_cons_zero, List.set_cons_succ]
      refine Dp.wpAny_tail 16 rfl (by kernel_rfl) ?_
      simp only [List.drop_succ_cons, List.drop_zero]
      have HR6 := Hid.mk_ (Dp.row_nil (r5.keep k6 (fun e => e)))
      clear r5
      go_wp2_with (refine Dp.wpList_store_in rfl 64 _ _ rfl w4.heap.size 0 rfl (Dp.verdictCells qa qb qn qu) rfl 64 [] (Dp.verdictCells 0 0 0 false) [] HR6.out rfl rfl (by rw [sizeVerdict]; rfl) (by intro v hv; simp [Dp.verdictCells] at hv; rcases hv with rfl | rfl | rfl | rfl <;> rfl) ?_)
      intro w7 r7 z7 k7
      have HF : Hid (Dp.Row w7 w4.heap.size 64 (Dp.verdictCells qa qb qn qu) ∧ Dp.Keeps (fun _ => False) w4 w7) := ⟨by simpa using r7, (hS5.trans k6).next k7 (fun q hq e => by omega)⟩
      clear r7 k7 k6 k5 hS5 HR6 z7
      go_wp2
      go_meet
      case rel => exact ⟨w4.heap.size, rfl, Nat.le_refl _, rfl, HF.out.1, HF.out.2⟩
  case rest =>
    obtain ⟨T, rfl, hT, rfl, rT, kT⟩ := hcut
    have hZ := Z4.out
    have hr := returned_any (Dp.str l) _ (w.heap.size + 1) (w.heap.size + 1 + 1) (.slice none 0 0) (.slice none 0 0) (.slice none 0 0) (.slice none 0 0) (.slice none 0 0) (.slice none 0 0) [] (by rw [hsz]; exact hl) (by simp) (by rw [Dp.str_data]; exact HRB.out.keep kT (fun e => e)) (HRW.out.keep kT (fun e => e)) (Dp.Own.nil _ _)
    rw [hsz] at hr
    have HRE := Hid.mk_ hr
    clear hr
    have HL5 := Hid.mk_ (HRL.out.keep kT (fun e => e))
    have HK5 := Hid.mk_ (HK4.out.trans kT)
    have HT5 := Hid.mk_ rT
    clear rT kT HRB HRW HRL HK4 HS
    go_wp2_with fail
    refine HRE.out.mono ?_
    rintro e w8 ⟨rfl, _, k8, _⟩
    have HL8 := Hid.mk_ (HL5.out.keep k8 (by rintro (e | e | e); omega; omega; simp [Value.ownBlock] at e))
    have HT8 := Hid.mk_ (HT5.out.keep k8 (by rintro (e | e | e); omega; omega; simp [Value.ownBlock] at e))
    have HK8 : Hid (Dp.Keeps (fun _ => False) w w8) := HK5.out.next k8 (by rintro i hi (e | e | e); omega; omega; simp [Value.ownBlock] at e)
    clear k8 HL5 HT5 HK5 HRE hZ
    go_wp2
    go_loopw [16, 17] (fun o i wr => ∃ k : Nat, k ≤ ms.length ∧ o = .bool true ∧ i = .int .i64 k ∧ Dp.Keeps (fun _ => False) w8 wr) (fun _ i _ => ms.length - (intOf i).toNat)
    case atStart => exact ⟨0, Nat.zero_le _, rfl, rfl, Dp.Keeps.refl _ _⟩
    case round =>
      obtain ⟨k, hk, rfl, rfl, kr⟩ := hrel
      by_cases hlt : k < ms.length
      · have q0 : wr.drew.cell? ⟨w.heap.size, k * 2, none⟩ = some (.int .i64 ms[k].1) := by
          have h := (HL8.out.keep kr.drew (fun e => e)).cell (k * 2)
          rw [List.getElem?_append_left (by rw [HML.out]; omega), Dp.mvCells_fst ms k hlt] at h
          exact h
        have q1 : wr.drew.cell? ⟨w.heap.size, k * 2 + 1, none⟩ = some (.bool ms[k].2) := by
          have h := (HL8.out.keep kr.drew (fun e => e)).cell (k * 2 + 1)
          rw [List.getElem?_append_left (by rw [HML.out]; omega), Dp.mvCells_snd ms k hlt] at h
          exact h
        obtain ⟨hm0, hm1⟩ := HMC.out k hlt
        have had : mad = some ⟨mb, mo, none⟩ := HMN.out (by intro h; rw [h] at hlt; simp at hlt)
        have hMb := Dp.cell_lt hm0
        have kwr := (HK8.out.trans kr).drew
        have q2 : wr.drew.cell? ⟨mb, mo + k * 2, none⟩ = some (.int .i64 ms[k].1) := (kwr.cell (p := ⟨mb, mo + k * 2, none⟩) hMb (fun e => e)).trans hm0
        have q3 : wr.drew.cell? ⟨mb, mo + k * 2 + 1, none⟩ = some (.bool ms[k].2) := (kwr.cell (p := ⟨mb, mo + k * 2 + 1, none⟩) hMb (fun e => e)).trans hm1
        subst had
        clear hm0 hm1 kwr
        generalize ms[k] = M at *
        obtain ⟨x, lf⟩ := M
        have hb : (lf == lf) = true := by simp
        go_wp2
        go_region
        go_wp2
        go_roundw
        · exact ⟨k + 1, by omega, rfl, by push_cast; rfl, kr.drew⟩
        · simp [intOf]; omega
      · obtain rfl : k = ms.length := by omega
        have q4 : wr.cell? ⟨w.heap.size, ms.length * 2, none⟩ = some (.int .i64 0) := by
          have h := (HL8.out.keep kr (fun e => e)).cell (ms.length * 2)
          rw [List.getElem?_append_right (by rw [HML.out]; omega), HML.out, Nat.sub_self] at h
          exact h
        have q5 : wr.cell? ⟨w.heap.size, ms.length * 2 + 1, none⟩ = some (.bool false) := by
          have h := (HL8.out.keep kr (fun e => e)).cell (ms.length * 2 + 1)
          rw [List.getElem?_append_right (by rw [HML.out]; omega), HML.out, show ms.length * 2 + 1 - ms.length * 2 = 1 by omega] at h
          exact h
        have HKR := Hid.mk_ (HK8.out.trans kr)
        have rT := HT8.out.keep kr (fun e => e)
        clear HL8 HT8 HK8 kr
        by_cases hd : depth < 0 ∨ depth > 16
        · obtain rfl : ST = (Dp.verdictCells 0 0 0 false, 1) := by rw [← HST.out]; exact if_pos hd
          have t0 : wr.cell? ⟨T, 0, none⟩ = some (.int .i64 0) := rT.cell 0
          have t1 : wr.cell? ⟨T, 1, none⟩ = some (.int .i64 0) := rT.cell 1
          have t2 : wr.cell? ⟨T, 2, none⟩ = some (.int .i64 0) := rT.cell 2
          have t3 : wr.cell? ⟨T, 3, none⟩ = some (.bool false) := rT.cell 3
          clear rT
          by_cases hd0 : depth < 0
          · have hg : decide (depth < 0) = true := decide_eq_true hd0
            clear hd
            go_wp2
            go_ret
            exact ⟨rfl, HKR.out⟩
          · have hg : decide (depth < 0) = false := decide_eq_false hd0
            have hg2 : decide ((16 : Int) < depth) = true := decide_eq_true (by omega)
            clear hd
            go_wp2
            go_ret
            exact ⟨rfl, HKR.out⟩
        have hg : decide (depth < 0) = false := decide_eq_false (by omega)
        have hg2 : decide ((16 : Int) < depth) = false := decide_eq_false (by omega)
        by_cases hn : (ms.length : Int) = depth
        case neg =>
          obtain rfl : ST = (Dp.verdictCells 0 0 0 false, 7) := by rw [← HST.out]; unfold Dp.settled; rw [if_neg hd, if_pos hn]
          have t0 : wr.cell? ⟨T, 0, none⟩ = some (.int .i64 0) := rT.cell 0
          have t1 : wr.cell? ⟨T, 1, none⟩ = some (.int .i64 0) := rT.cell 1
          have t2 : wr.cell? ⟨T, 2, none⟩ = some (.int .i64 0) := rT.cell 2
          have t3 : wr.cell? ⟨T, 3, none⟩ = some (.bool false) := rT.cell 3
          clear rT
          have hg3 : ((ms.length : Int) != depth) = true := by simpa using hn
          clear hd
          go_wp2
          go_ret
          exact ⟨rfl, HKR.out⟩
        subst hn
        obtain ⟨E, HE⟩ : ∃ E, Hid (Dp.endsOf ms first last = E) := ⟨_, rfl⟩
        obtain ⟨V, HVV⟩ : ∃ V, Hid (Dp.checked E.1 l = V) := ⟨_, rfl⟩
        obtain ⟨N, HN⟩ : ∃ N, Hid (Dp.numFrom ms 0 = N) := ⟨_, rfl⟩
        obtain rfl : ST = (Dp.verdictCells E.1 E.2 N (decide (V.2 = 0) && V.1 == E.2), 0) := by
          rw [← HST.out, ← HVV.out, ← HN.out, ← HE.out]; unfold Dp.settled; rw [if_neg hd, if_neg (by simp)]
        have hg3 : ((ms.length : Int) != (ms.length : Int)) = false := by simp
        have hn16 : ms.length ≤ 16 := by omega
        have HRT := Hid.mk_ rT
        clear hd rT HST
        go_wp2
        go_loopw [1, 2, 19, 20] (fun a b n i wx => ∃ k : Nat, k ≤ ms.length ∧ i = .int .i64 k ∧ n = .int .i64 (Dp.numFrom (ms.take k) 0) ∧ a = .int .i64 (Dp.endsOf (ms.take k) first last).1 ∧ b = .int .i64 (Dp.endsOf (ms.take k) first last).2 ∧ wx = wr) (fun _ _ _ i _ => ms.length - (intOf i).toNat)
        case atStart => exact ⟨0, Nat.zero_le _, rfl, rfl, rfl, rfl, rfl⟩
        case round =>
          obtain ⟨k, hk, rfl, rfl, rfl, rfl, hww⟩ := hrel
          subst hww
          by_cases hlt : k < ms.length
          · obtain ⟨hm0, hm1⟩ := HMC.out k hlt
            have had : mad = some ⟨mb, mo, none⟩ := HMN.out (by intro h; rw [h] at hlt; simp at hlt)
            have hMb := Dp.cell_lt hm0
            have q2 : wr.cell? ⟨mb, mo + k * 2, none⟩ = some (.int .i64 ms[k].1) := (HKR.out.cell (p := ⟨mb, mo + k * 2, none⟩) hMb (fun e => e)).trans hm0
            have q3 : wr.cell? ⟨mb, mo + k * 2 + 1, none⟩ = some (.bool ms[k].2) := (HKR.out.cell (p := ⟨mb, mo + k * 2 + 1, none⟩) hMb (fun e => e)).trans hm1
            subst had
            have HSE := Hid.mk_ (Dp.endsOf_snoc (ms.take k) ms[k] first last)
            have HSN := Hid.mk_ (Dp.numFrom_snoc (ms.take k) ms[k] 0)
            have HT : Hid (ms.take (k + 1) = ms.take k ++ [ms[k]]) := List.take_succ_eq_append_getElem hlt
            have hb := Dp.numFrom_bd16 (ms.take k) (by rw [List.length_take]; omega)
            clear hm0 hm1 q4 q5
            generalize ms[k] = M at *
            obtain ⟨x, lf⟩ := M
            generalize Dp.numFrom (ms.take k) 0 = A at *
            generalize Dp.endsOf (ms.take k) first last = B at *
            obtain ⟨B1, B2⟩ := B
            cases lf with
            | true =>
              go_wp2
              go_roundw
              · refine ⟨k + 1, by omega, by push_cast; rfl, ?_, ?_, ?_, trivial⟩
                · rw [HT.out, HSN.out]; simp
                · rw [HT.out, HSE.out]; simp
                · rw [HT.out, HSE.out]; simp
              · simp [intOf]; omega
            | false =>
              go_wp2
              go_roundw
              · refine ⟨k + 1, by omega, by push_cast; rfl, ?_, ?_, ?_, trivial⟩
                · rw [HT.out, HSN.out]; simp
                · rw [HT.out, HSE.out]; simp
                · rw [HT.out, HSE.out]; simp
              · simp [intOf]; omega
          · obtain rfl : k = ms.length := by omega
            rw [List.take_length, HN.out, HE.out]
            go_wp2_with fail
            refine (refCheck E.1 l _ hl).mono ?_
            rintro e w9 ⟨rfl, k9⟩
            rw [HVV.out]
            obtain ⟨E1, E2⟩ := E
            obtain ⟨V1, V2⟩ := V
            have r9 := HRT.out.keep k9 (fun e => e)
            obtain ⟨up, HUP⟩ : ∃ u, Hid ((decide (V2 = 0) && V1 == E2) = u) := ⟨_, rfl⟩
            have t0 : w9.cell? ⟨T, 0, none⟩ = some (.int .i64 E1) := r9.cell 0
            have t1 : w9.cell? ⟨T, 1, none⟩ = some (.int .i64 E2) := r9.cell 1
            have t2 : w9.cell? ⟨T, 2, none⟩ = some (.int .i64 N) := r9.cell 2
            have t3 : w9.cell? ⟨T, 3, none⟩ = some (.bool up) := by rw [← HUP.out]; exact r9.cell 3
            have HKF := Hid.mk_ (HKR.out.trans k9)
            clear r9 HRT k9 q4 q5 hg3
            have hcase : ((V2 == 0) = false ∧ up = false) ∨ ((V2 == 0) = true ∧ (V1 == E2) = up) := by
              rw [← HUP.out]
              by_cases h : V2 = 0
              · right; subst h; simp
              · left; simp [h]
            rcases hcase with ⟨hv, hu⟩ | ⟨hv, hu⟩
            · subst hu
              go_wp2
              go_ret
              exact ⟨rfl, HKF.out⟩
            · have hb : (up == up) = true := by simp
              go_wp2
              go_ret
              exact ⟨rfl, HKF.out⟩
end Go.Proofs.YtdipojfngdceoaaDoor
