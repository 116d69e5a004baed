/- Steps on the way: KeepCopied. -/
import Derived.Test.YtdipojfngdceoaaDoorPack87
/- A source copied into the cells by the machine: the walk. -/
namespace Go.Proofs.YtdipojfngdceoaaDoor
open Go.RowKit

namespace Dp
theorem conv_parts {B : Nat} {w : World} {v : Value} {l : List UInt8} (h : Conv B w v l) (e : TypeId) : Parts (w.alloc (.cells #[v] e)) (.slice (some ⟨w.heap.size, 0, none⟩) 1 1) [l] := by
  refine ⟨w.heap.size, 0, _, 1, rfl, by simp [maxLen], fun _ => rfl, fun i hi => ?_⟩
  obtain rfl : i = 0 := by simp at hi; exact hi
  exact ⟨v, (Row.allocNew w e [v]).cell 0, (h.keep ((Keeps.refl (fun _ => False) w).alloc _) (fun _ _ _ _ e => e)).cutting.bytes⟩
theorem copy_ok (l : List UInt8) (n : Nat) (hl : l.length ≤ 200) (hn : n ≤ 50) : newOk (copyProg (sum l) n) [l] = true := by
  have := sum_bd l
  unfold newOk copyProg
  simp [opw]
  omega
/-- The words, of which k are written. -/
def wholeTo (l : List UInt8) (n k : Nat) : List Int := (copyProg (sum l) n ++ List.replicate 88 0) ++ ((wordsOf l n).take k ++ List.replicate (n - k) 0)
theorem wholeTo_zero (l : List UInt8) (n : Nat) : regCells (copyProg (sum l) n) ++ List.replicate (100 + n - (regCells (copyProg (sum l) n)).length) (Value.int .i64 0) = regCells (wholeTo l n 0) := by
  unfold wholeTo
  rw [show (regCells (copyProg (sum l) (n : Int))).length = 12 from rfl, show 100 + n - 12 = 88 + n by omega, ← List.replicate_append_replicate]
  simp [regCells]
theorem wholeTo_all (l : List UInt8) (n : Nat) : wholeTo l n n = wholeOf l n := by
  unfold wholeTo wholeOf
  rw [List.take_of_length_le (by rw [wordsOf_length]; exact Nat.le_refl _), Nat.sub_self]
  simp
theorem wholeTo_length (l : List UInt8) (n k : Nat) (hk : k ≤ n) : (wholeTo l n k).length = 100 + n := by
  simp [wholeTo, wordsOf_length, copyProg]; omega
theorem wholeTo_set (l : List UInt8) (n k : Nat) (hk : k < n) : (wholeTo l n k).set (100 + k) (told l ((4 * k : Nat) : Int)) = wholeTo l n (k + 1) := by
  unfold wholeTo
  have h1 : (copyProg (sum l) (n : Int) ++ List.replicate 88 0).length = 100 := by simp [copyProg]
  have h2 : ((wordsOf l n).take k).length = k := by rw [List.length_take, wordsOf_length]; omega
  have h3 : (wordsOf l n)[k]'(by rw [wordsOf_length]; exact hk) = told l ((4 * k : Nat) : Int) := by simp [wordsOf]
  rw [List.set_append_right _ _ (by omega), h1, show 100 + k - 100 = k by omega, List.set_append_right _ _ (by omega), h2, Nat.sub_self, show n - k = (n - (k + 1)) + 1 by omega, List.replicate_succ (n := n - (k + 1)), List.set_cons_zero,
    List.take_succ_eq_append_getElem (by rw [wordsOf_length]; exact hk), h3]
  simp
theorem whole_ok (l : List UInt8) (n : Nat) (hn : n ≤ 50) : newOk (wholeOf l n) [] = true := by
  have hs := sum_bd l
  unfold newOk
  simp only [Bool.and_eq_true, decide_eq_true_eq, List.all_eq_true]
  refine ⟨⟨⟨by rw [wholeOf_length]; omega, by simp⟩, ?_⟩, by simp⟩
  intro x hx
  unfold wholeOf at hx
  rw [List.mem_append, List.mem_append] at hx
  rcases hx with (hx | hx) | hx
  · simp [copyProg, opw] at hx
    rcases hx with rfl | rfl | rfl | rfl | rfl | rfl | rfl | rfl | rfl | rfl | rfl | rfl <;> omega
  · rw [List.eq_of_mem_replicate hx]; omega
  · simp only [wordsOf, List.mem_map] at hx
    obtain ⟨i, _, rfl⟩ := hx
    have := toldTo_bd l ((4 * i : Nat) : Int) 4 (by omega)
    rw [toldTo_four] at this
    omega
theorem whole_cell (l : List UInt8) (n k : Nat) (hk : k < n) : (newMach (wholeOf l n) []).cells.getD (100 + k) 0 = told l ((4 * k : Nat) : Int) := by
  have hlen := wholeOf_length l n
  have hat := wholeOf_at l n k (by omega)
  show (wholeOf l n ++ List.replicate (256 - (wholeOf l n).length) 0).getD (100 + k) 0 = _
  rw [List.getD_eq_getElem?_getD, List.getElem?_append_left (by omega), List.getElem?_eq_getElem (by omega), hat]
  rfl
end Dp

theorem fieldRoot (R : Int) (w : World) : (Instr.field 35 (.agg #[.int .i64 0, .int .i64 0, .int .i64 0, .bool false, .int .i64 0, .int .i64 0, .int .i64 0, .int .i64 0, .int .i64 0, .int .i64 0, .int .i64 0, .int .i64 0, .int .i64 R]) 5).run Tryd.prog w = .ok (.int .i64 R) w := by kernel_rfl
theorem sizeIntT : (Tryd.prog.info? 3).map (·.size) = some 1 := by kernel_rfl

set_option maxRecDepth 100000 in
set_option maxHeartbeats 4000000 in
theorem keepCopied (w : World) (eb : Addr) (l : List UInt8) (he : Dp.ErrAt w eb) (hl : l.length ≤ maxLen) :
    Calls Tryd.prog 6 #[.string (Dp.str l)] w fun e w' => e = .returned (.bool true) ∧ Dp.Keeps (fun _ => False) w w' := by
  have HE := Hid.mk_ he
  have hl' : l.length ≤ 9223372036854775807 := by unfold maxLen at hl; omega
  have hsz := Dp.str_size l
  clear he hl
  go_enter Tryd.func6, Tryd.ntmps6
  go_wp2_with fail
  refine (keepSure w eb HE.out).mono ?_
  rintro e w1 ⟨rfl, k1⟩
  have HK := Hid.mk_ k1
  clear k1
  obtain ⟨T, hT⟩ : ∃ T, T = Dp.cut200 l := ⟨_, rfl⟩
  have hTl : T.length ≤ 200 := by rw [hT]; exact Dp.cut200_length l
  have HTL : Hid (T.length ≤ 200) := hTl
  by_cases hbig : 200 < l.length
  · have HTE : Hid ((Dp.str l).extract 0 200 = Dp.str T) := by unfold Hid; rw [Dp.str_cut, hT]
    clear hT hTl
    go_wp2_with (refine Dp.wpList_toBytes rfl _ _ _ rfl Tryd.underlying9 Tryd.underlying44 Tryd.underlying5 T (by show Value.string _ = Value.string _; rw [HTE.out]) (by have := HTL.out; unfold maxLen; omega) ?_)
    intro cap2 w2 hc2 z2 k2
    have HC2 := Hid.mk_ hc2
    rw [HTE.out]
    have HK2 := Hid.mk_ (HK.out.trans k2)
    clear hc2 k2 HK
    go_wp2_with fail
    have hP2 := Dp.conv_parts HC2.out 44
    rw [z2] at hP2
    refine (progSum1 _ _ _ hP2).mono ?_
    rintro e w3 ⟨rfl, ew3⟩
    have k3 := ((Dp.Keeps.refl (fun _ => False) w2).alloc (.cells #[.slice (some ⟨w1.heap.size, 0, none⟩) T.length cap2] 44))
    rw [← ew3] at k3
    have HK := Hid.mk_ (HK2.out.trans k3)
    rw [show [T].flatten = T by simp]
    clear hP2 ew3 k3 HK2 HC2 z2
    obtain ⟨N, hN⟩ : ∃ N : Nat, N = (T.length + 3) / 4 := ⟨_, rfl⟩
    have hNe : ((T.length : Int) + 3) / 4 = (N : Int) := by omega
    have hN5 : N ≤ 50 := by have := HTL.out; omega
    have hszT := Dp.str_size T
    have hT2 : T.length ≤ 200 := HTL.out
    have HN := Hid.mk_ hN
    clear hN
    have hsb := Dp.sum_bd T
    generalize hNM : Dp.sum T = NM at *
    have HNM := Hid.mk_ hNM
    clear hNM
    go_wp2_with (at_make; refine Dp.wpList_make_row _ rfl _ _ 37 rfl 3 (.int .i64 0) 8 Tryd.underlying37 infoInt rfl _ _ _ _ 12 rfl rfl (by omega) (by omega) (by omega) (by unfold maxLen; omega) ?_)
    intro w4 r4 z4 k4
    have r4' : Dp.Row w4 w3.heap.size 3 (Dp.regCells (List.replicate 12 0)) := r4
    have hg0 : w.heap.size ≤ w3.heap.size := HK.out.size
    generalize hG0 : w3.heap.size = G0 at *
    have HR := Hid.mk_ r4'
    have HL : Hid (∀ i, i < 12 → i < (List.replicate 12 (0 : Int)).length) := fun i hi => by rw [List.length_replicate]; exact hi
    replace HK := Hid.mk_ (HK.out.trans k4)
    have hgl : G0 < w4.heap.size := by omega
    clear r4 r4' k4 z4 hG0 hNe
    go_wp2_with fail
    refine (keepOp 13 1 0 _ (by omega) (by omega) (by omega)).mono ?_
    rintro e s0 ⟨rfl, ew⟩
    rw [show Dp.opw 13 1 0 = 880803840 from rfl]
    rw [← ew] at HR HK
    clear ew
    have c0 := HR.out.cellAt 0 (by rw [Dp.regCells_len]; exact HL.out 0 (by omega))
    have f0 := HR.out.frozen 0
    generalize (Dp.regCells (List.replicate 12 0))[0]'(by rw [Dp.regCells_len]; exact HL.out 0 (by omega)) = y at c0
    replace HR := Hid.mk_ (Dp.ints_set HR.out 0 880803850)
    replace HL : Hid (∀ i, i < 12 → i < ((List.replicate 12 0).set 0 880803850).length) := fun i hi => by rw [List.length_set]; exact HL.out i hi
    replace HK := Hid.mk_ (HK.out.setCell (p := ⟨G0, 0, none⟩) (.inl (by have := HK.out.size; omega)) (.int .i64 880803850))
    go_wp2_with fail
    refine (keepOp 13 2 0 _ (by omega) (by omega) (by omega)).mono ?_
    rintro e s1 ⟨rfl, ew⟩
    rw [show Dp.opw 13 2 0 = 889192448 from rfl]
    rw [← ew] at HR HK
    clear ew
    have c1 := HR.out.cellAt 1 (by rw [Dp.regCells_len]; exact HL.out 1 (by omega))
    have f1 := HR.out.frozen 1
    generalize (Dp.regCells ((List.replicate 12 0).set 0 880803850))[1]'(by rw [Dp.regCells_len]; exact HL.out 1 (by omega)) = y at c1
    replace HR := Hid.mk_ (Dp.ints_set HR.out 1 889192459)
    replace HL : Hid (∀ i, i < 12 → i < (((List.replicate 12 0).set 0 880803850).set 1 889192459).length) := fun i hi => by rw [List.length_set]; exact HL.out i hi
    replace HK := Hid.mk_ (HK.out.setCell (p := ⟨G0, 1, none⟩) (.inl (by have := HK.out.size; omega)) (.int .i64 889192459))
    go_wp2_with fail
    refine (keepOp 15 3 2 _ (by omega) (by omega) (by omega)).mono ?_
    rintro e s2 ⟨rfl, ew⟩
    rw [show Dp.opw 15 3 2 = 1033895936 from rfl]
    rw [← ew] at HR HK
    clear ew
    have c2 := HR.out.cellAt 2 (by rw [Dp.regCells_len]; exact HL.out 2 (by omega))
    have f2 := HR.out.frozen 2
    generalize (Dp.regCells (((List.replicate 12 0).set 0 880803850).set 1 889192459))[2]'(by rw [Dp.regCells_len]; exact HL.out 2 (by omega)) = y at c2
    replace HR := Hid.mk_ (Dp.ints_set HR.out 2 1033895941)
    replace HL : Hid (∀ i, i < 12 → i < ((((List.replicate 12 0).set 0 880803850).set 1 889192459).set 2 1033895941).length) := fun i hi => by rw [List.length_set]; exact HL.out i hi
    replace HK := Hid.mk_ (HK.out.setCell (p := ⟨G0, 2, none⟩) (.inl (by have := HK.out.size; omega)) (.int .i64 1033895941))
    go_wp2_with fail
    refine (keepOp 19 5 1 _ (by omega) (by omega) (by omega)).mono ?_
    rintro e s3 ⟨rfl, ew⟩
    rw [show Dp.opw 19 5 1 = 1318060032 from rfl]
    rw [← ew] at HR HK
    clear ew
    have c3 := HR.out.cellAt 3 (by rw [Dp.regCells_len]; exact HL.out 3 (by omega))
    have f3 := HR.out.frozen 3
    generalize (Dp.regCells ((((List.replicate 12 0).set 0 880803850).set 1 889192459).set 2 1033895941))[3]'(by rw [Dp.regCells_len]; exact HL.out 3 (by omega)) = y at c3
    replace HR := Hid.mk_ (Dp.ints_set HR.out 3 1318584320)
    replace HL : Hid (∀ i, i < 12 → i < (((((List.replicate 12 0).set 0 880803850).set 1 889192459).set 2 1033895941).set 3 1318584320).length) := fun i hi => by rw [List.length_set]; exact HL.out i hi
    replace HK := Hid.mk_ (HK.out.setCell (p := ⟨G0, 3, none⟩) (.inl (by have := HK.out.size; omega)) (.int .i64 1318584320))
    go_wp2_with fail
    refine (keepOp 14 5 3 _ (by omega) (by omega) (by omega)).mono ?_
    rintro e s4 ⟨rfl, ew⟩
    rw [show Dp.opw 14 5 3 = 984612864 from rfl]
    rw [← ew] at HR HK
    clear ew
    have c4 := HR.out.cellAt 4 (by rw [Dp.regCells_len]; exact HL.out 4 (by omega))
    have f4 := HR.out.frozen 4
    generalize (Dp.regCells (((((List.replicate 12 0).set 0 880803850).set 1 889192459).set 2 1033895941).set 3 1318584320))[4]'(by rw [Dp.regCells_len]; exact HL.out 4 (by omega)) = y at c4
    replace HR := Hid.mk_ (Dp.ints_set HR.out 4 984612964)
    replace HL : Hid (∀ i, i < 12 → i < ((((((List.replicate 12 0).set 0 880803850).set 1 889192459).set 2 1033895941).set 3 1318584320).set 4 984612964).length) := fun i hi => by rw [List.length_set]; exact HL.out i hi
    replace HK := Hid.mk_ (HK.out.setCell (p := ⟨G0, 4, none⟩) (.inl (by have := HK.out.size; omega)) (.int .i64 984612964))
    go_wp2_with fail
    refine (keepOp 11 3 3 _ (by omega) (by omega) (by omega)).mono ?_
    rintro e s5 ⟨rfl, ew⟩
    rw [show Dp.opw 11 3 3 = 766509056 from rfl]
    rw [← ew] at HR HK
    clear ew
    have c5 := HR.out.cellAt 5 (by rw [Dp.regCells_len]; exact HL.out 5 (by omega))
    have f5 := HR.out.frozen 5
    generalize (Dp.regCells ((((((List.replicate 12 0).set 0 880803850).set 1 889192459).set 2 1033895941).set 3 1318584320).set 4 984612964))[5]'(by rw [Dp.regCells_len]; exact HL.out 5 (by omega)) = y at c5
    replace HR := Hid.mk_ (Dp.ints_set HR.out 5 766509057)
    replace HL : Hid (∀ i, i < 12 → i < (((((((List.replicate 12 0).set 0 880803850).set 1 889192459).set 2 1033895941).set 3 1318584320).set 4 984612964).set 5 766509057).length) := fun i hi => by rw [List.length_set]; exact HL.out i hi
    replace HK := Hid.mk_ (HK.out.setCell (p := ⟨G0, 5, none⟩) (.inl (by have := HK.out.size; omega)) (.int .i64 766509057))
    go_wp2_with fail
    refine (keepOp 11 4 4 _ (by omega) (by omega) (by omega)).mono ?_
    rintro e s6 ⟨rfl, ew⟩
    rw [show Dp.opw 11 4 4 = 775946240 from rfl]
    rw [← ew] at HR HK
    clear ew
    have c6 := HR.out.cellAt 6 (by rw [Dp.regCells_len]; exact HL.out 6 (by omega))
    have f6 := HR.out.frozen 6
    generalize (Dp.regCells (((((((List.replicate 12 0).set 0 880803850).set 1 889192459).set 2 1033895941).set 3 1318584320).set 4 984612964).set 5 766509057))[6]'(by rw [Dp.regCells_len]; exact HL.out 6 (by omega)) = y at c6
    replace HR := Hid.mk_ (Dp.ints_set HR.out 6 775946244)
    replace HL : Hid (∀ i, i < 12 → i < ((((((((List.replicate 12 0).set 0 880803850).set 1 889192459).set 2 1033895941).set 3 1318584320).set 4 984612964).set 5 766509057).set 6 775946244).length) := fun i hi => by rw [List.length_set]; exact HL.out i hi
    replace HK := Hid.mk_ (HK.out.setCell (p := ⟨G0, 6, none⟩) (.inl (by have := HK.out.size; omega)) (.int .i64 775946244))
    go_wp2_with fail
    refine (keepOp 18 6 0 _ (by omega) (by omega) (by omega)).mono ?_
    rintro e s7 ⟨rfl, ew⟩
    rw [show Dp.opw 18 6 0 = 1258291200 from rfl]
    rw [← ew] at HR HK
    clear ew
    have c7 := HR.out.cellAt 7 (by rw [Dp.regCells_len]; exact HL.out 7 (by omega))
    have f7 := HR.out.frozen 7
    generalize (Dp.regCells ((((((((List.replicate 12 0).set 0 880803850).set 1 889192459).set 2 1033895941).set 3 1318584320).set 4 984612964).set 5 766509057).set 6 775946244))[7]'(by rw [Dp.regCells_len]; exact HL.out 7 (by omega)) = y at c7
    replace HR := Hid.mk_ (Dp.ints_set HR.out 7 1258291202)
    replace HL : Hid (∀ i, i < 12 → i < (((((((((List.replicate 12 0).set 0 880803850).set 1 889192459).set 2 1033895941).set 3 1318584320).set 4 984612964).set 5 766509057).set 6 775946244).set 7 1258291202).length) := fun i hi => by rw [List.length_set]; exact HL.out i hi
    replace HK := Hid.mk_ (HK.out.setCell (p := ⟨G0, 7, none⟩) (.inl (by have := HK.out.size; omega)) (.int .i64 1258291202))
    go_wp2_with fail
    refine (keepOp 0 3 0 _ (by omega) (by omega) (by omega)).mono ?_
    rintro e s8 ⟨rfl, ew⟩
    rw [show Dp.opw 0 3 0 = 25165824 from rfl]
    rw [← ew] at HR HK
    clear ew
    have c8 := HR.out.cellAt 8 (by rw [Dp.regCells_len]; exact HL.out 8 (by omega))
    have f8 := HR.out.frozen 8
    generalize (Dp.regCells (((((((((List.replicate 12 0).set 0 880803850).set 1 889192459).set 2 1033895941).set 3 1318584320).set 4 984612964).set 5 766509057).set 6 775946244).set 7 1258291202))[8]'(by rw [Dp.regCells_len]; exact HL.out 8 (by omega)) = y at c8
    have d10 := HR.out.cellAt 10 (by rw [Dp.regCells_len]; exact HL.out 10 (by omega))
    have e10 := HR.out.frozen 10
    generalize (Dp.regCells (((((((((List.replicate 12 0).set 0 880803850).set 1 889192459).set 2 1033895941).set 3 1318584320).set 4 984612964).set 5 766509057).set 6 775946244).set 7 1258291202))[10]'(by rw [Dp.regCells_len]; exact HL.out 10 (by omega)) = z at d10
    have d11 := HR.out.cellAt 11 (by rw [Dp.regCells_len]; exact HL.out 11 (by omega))
    have e11 := HR.out.frozen 11
    generalize (Dp.regCells (((((((((List.replicate 12 0).set 0 880803850).set 1 889192459).set 2 1033895941).set 3 1318584320).set 4 984612964).set 5 766509057).set 6 775946244).set 7 1258291202))[11]'(by rw [Dp.regCells_len]; exact HL.out 11 (by omega)) = z at d11
    replace HR := Hid.mk_ (Dp.ints_set HR.out 8 25165824)
    replace HL : Hid (∀ i, i < 12 → i < ((((((((((List.replicate 12 0).set 0 880803850).set 1 889192459).set 2 1033895941).set 3 1318584320).set 4 984612964).set 5 766509057).set 6 775946244).set 7 1258291202).set 8 25165824).length) := fun i hi => by rw [List.length_set]; exact HL.out i hi
    replace HK := Hid.mk_ (HK.out.setCell (p := ⟨G0, 8, none⟩) (.inl (by have := HK.out.size; omega)) (.int .i64 25165824))
    replace HR := Hid.mk_ (Dp.ints_set (Dp.ints_set HR.out 10 NM) 11 N)
    replace HK := Hid.mk_ ((HK.out.setCell (p := ⟨G0, 10, none⟩) (.inl (by have := HK.out.size; omega)) (.int .i64 NM)).setCell (p := ⟨G0, 11, none⟩) (.inl (by have := HK.out.size; omega)) (.int .i64 N))
    have hLL : ((((((((((((List.replicate 12 0).set 0 880803850).set 1 889192459).set 2 1033895941).set 3 1318584320).set 4 984612964).set 5 766509057).set 6 775946244).set 7 1258291202).set 8 25165824).set 10 NM).set 11 (N : Int)) = Dp.copyProg NM N := rfl
    rw [hLL] at HR
    clear HL hLL
    go_wp2_with (refine Dp.wpList_toBytes rfl _ _ _ rfl Tryd.underlying9 Tryd.underlying58 Tryd.underlying5 T rfl (by have := HTL.out; unfold maxLen; omega) ?_)
    intro cap5 w5 hc5 z5 k5
    replace HR := Hid.mk_ (HR.out.keep k5 (fun e => e))
    replace HK := Hid.mk_ (HK.out.trans k5)
    have HC5 := Hid.mk_ hc5
    clear hc5 k5
    go_wp2_with fail
    have hP5 := Dp.conv_parts HC5.out 58
    rw [z5] at hP5
    have kal := ((Dp.Keeps.refl (fun _ => False) w5).alloc (.cells #[.slice (some ⟨s8.heap.size, 0, none⟩) T.length cap5] 58))
    replace HR := Hid.mk_ (HR.out.keep kal (fun e => e))
    replace HK := Hid.mk_ (HK.out.trans kal)
    have hg5 := HR.out.lt
    refine (progNew _ _ _ (Dp.copyProg NM N) [T] (Dp.ints_row (xs := Dp.copyProg NM N) (post := []) (by rw [List.append_nil]; exact HR.out) (by simp [Dp.copyProg])) hP5 (by rw [← HNM.out]; exact Dp.copy_ok T N HTL.out hN5)).mono ?_
    rintro e wn ⟨⟨b, vs, G, rfl, hb, hG, hM⟩, kn⟩
    have hbw : w.heap.size ≤ b := by have := HK.out.size; omega
    replace HR := Hid.mk_ (HR.out.keep kn (fun e => e))
    replace HK := Hid.mk_ (HK.out.trans kn)
    have hbg : G0 ≠ b := by omega
    clear hg5
    have HM := Hid.mk_ hM
    clear hM kn hP5 hG kal hb
    obtain ⟨mf, hrun, hov, hco, hce⟩ := Dp.copied T N hN5
    rw [HNM.out] at hrun
    have HOV := Hid.mk_ hov
    have HCO := Hid.mk_ hco
    have HCE := Hid.mk_ hce
    have HRUN := Hid.mk_ hrun
    clear hov hco hce hrun
    go_wp2_with fail
    refine (progMRun wn b G vs _ HM.out 2000 (by omega)).mono ?_
    rintro e w6 ⟨rfl, k6, hM6⟩
    rw [HRUN.out] at hM6 ⊢
    have hM6' : Dp.ProgM w6 b G vs mf := hM6
    replace HM := Hid.mk_ hM6'
    replace HR := Hid.mk_ (HR.out.keep k6 (fun e => hbg e))
    replace HK := Hid.mk_ (HK.out.next k6 (fun q hq e => by omega))
    rw [show ((3 + 6 * N + 1 : Nat) : Int) = 3 + 6 * (N : Int) + 1 by omega]
    clear k6 hM6 hM6' HRUN
    go_wp2_with fail
    have hok := HM.out.ok
    refine (progMLook w6 b G vs _ HM.out).mono ?_
    rintro e w7 ⟨rfl, k7⟩
    replace HM := Hid.mk_ (HM.out.keep k7 (fun e => e) (fun _ _ e => e))
    replace HR := Hid.mk_ (HR.out.keep k7 (fun e => e))
    replace HK := Hid.mk_ (HK.out.trans k7)
    obtain ⟨S, R, hS, hRt⟩ : ∃ S : Dp.Cs, ∃ R : Int, S = mf.s ∧ R = Dp.root mf.cells := ⟨_, _, rfl, rfl⟩
    rw [← hS, ← hRt]
    have hSl : S.regs.length = 8 := by rw [hS]; exact hok.s.len
    have hSo : S.over = true := by rw [hS]; exact HOV.out
    have hSc : S.code = N := by rw [hS]; exact HCO.out
    have HRT : Hid (R = Dp.root (Dp.newMach (Dp.wholeOf T N) []).cells) := by unfold Hid; rw [hRt, HCE.out]
    clear hS hRt hok k7
    have HML : Hid ((Dp.stCells S R).length = 13) := Dp.stCells_length _ _ hSl
    go_wp2_with (refine Dp.wpList_alloc_row rfl 35 rfl _ zeroState ?_)
    intro w8 r8 z8 k8
    have HR8 := Hid.mk_ (Dp.row_nil r8)
    go_wp2_with (refine Dp.wpList_store_in rfl 35 _ _ rfl w7.heap.size 0 rfl (Dp.stCells S R) rfl 35 [] _ [] HR8.out rfl (by rw [HML.out]; rfl) (by rw [sizeState, HML.out]) (Dp.stCells_one _ _) ?_)
    intro w9 r9 z9 k9
    have r9' : Dp.Row w9 w7.heap.size 35 (Dp.stCells S R) := by simpa using r9
    have k79 : Dp.Keeps (fun _ => False) w7 w9 := k8.next k9 (fun k hk e => by omega)
    have a2 : w9.cell? ⟨w7.heap.size, 2, none⟩ = some (.int .i64 S.code) := r9'.cell 2
    have a3 : w9.cell? ⟨w7.heap.size, 3, none⟩ = some (.bool S.over) := r9'.cell 3
    rw [hSc] at a2
    rw [hSo] at a3
    have HRS := Hid.mk_ r9'
    replace HM := Hid.mk_ (HM.out.keep k79 (fun e => e) (fun _ _ e => e))
    replace HR := Hid.mk_ (HR.out.keep k79 (fun e => e))
    replace HK := Hid.mk_ (HK.out.trans k79)
    clear r8 r9 r9' HR8 k8 k9 k79 z8 z9 HML hSo hSc
    go_wp2_with (at_make; refine Dp.wpList_make_row _ rfl _ _ 37 rfl 3 (.int .i64 0) 8 Tryd.underlying37 infoInt rfl _ _ _ _ (100 + N) rfl rfl (by omega) (by omega) (by omega) (by unfold maxLen; omega) ?_)
    intro w10 r10 z10 k10
    have hb9 : b < w9.heap.size := HM.out.row.lt
    have HG9 : Hid (∀ q, G q → q < w9.heap.size) := fun q hq => (HM.out.own q hq).1
    have hg9 : G0 < w9.heap.size := HR.out.lt
    have hs9 : w7.heap.size < w9.heap.size := HRS.out.lt
    have hw9 : w.heap.size ≤ w9.heap.size := HK.out.size
    replace HM := Hid.mk_ (HM.out.keep k10 (fun e => e) (fun _ _ e => e))
    replace HR := Hid.mk_ (HR.out.keep k10 (fun e => e))
    replace HRS := Hid.mk_ (HRS.out.keep k10 (fun e => e))
    replace HK := Hid.mk_ (HK.out.trans k10)
    have HRW : Hid (Dp.Row w10 w9.heap.size 3 (List.replicate (100 + N) (.int .i64 0))) := r10
    clear r10 k10 a2 a3
    generalize hGW : w9.heap.size = GW at *
    clear hGW
    have HCP : Hid (0 < (Dp.regCells (Dp.copyProg NM N)).length → ∃ ad, (some ⟨G0, 0, none⟩ : Option Addr) = some ad ∧ ∀ j v, (Dp.regCells (Dp.copyProg NM N))[j]? = some v → w10.cell? (ad.add j) = some v) := by
      intro _
      refine ⟨_, rfl, fun j v hj => ?_⟩
      rw [Dp.add_zero_off, HR.out.cell]
      exact hj
    go_wp2_with (refine Dp.wpList_copy_wide rfl _ _ 37 37 rfl 3 1 Tryd.underlying37 sizeIntT GW (100 + N) (100 + N) (some ⟨G0, 0, none⟩) 12 12 rfl rfl 3 (Dp.regCells (Dp.copyProg NM N)) (List.replicate (100 + N) (.int .i64 0)) HRW.out rfl (by omega) (by rw [List.length_replicate]; show 12 ≤ 100 + N; omega) (Dp.regCells_one _) HCP.out ?_)
    intro w11 r11 z11 k11
    have HRW2 : Hid (Dp.Row w11 GW 3 (Dp.regCells (Dp.wholeTo T N 0))) := by
      rw [← HNM.out] at r11
      have h := Dp.wholeTo_zero T N
      rw [← h]
      exact r11
    replace HM := Hid.mk_ (HM.out.keep k11 (fun e => by omega) (fun q hq e => by have := HG9.out q hq; omega))
    replace HRS := Hid.mk_ (HRS.out.keep k11 (fun e => by omega))
    replace HK := Hid.mk_ (HK.out.next k11 (fun q hq e => by omega))
    clear r11 k11 HCP HRW HR z10 z11
    go_wp2
    go_loopw [13] (fun i wr => ∃ k : Nat, k ≤ N ∧ i = .int .i64 k ∧ Hid (Dp.Row wr GW 3 (Dp.regCells (Dp.wholeTo T N k))) ∧ Hid (Dp.ProgM wr b G vs mf) ∧ Hid (Dp.Row wr w7.heap.size 35 (Dp.stCells S R)) ∧ Hid (Dp.Keeps (fun _ => False) w wr)) (fun i _ => N - (intOf i).toNat)
    case atStart => exact ⟨0, Nat.zero_le _, rfl, HRW2, HM, HRS, HK⟩
    case round =>
      obtain ⟨k, hk, rfl, HRWk, HMk, HRSk, HKk⟩ := hrel
      clear HRW2 HM HRS HK
      by_cases hlt : k < N
      · obtain ⟨A4, hA4⟩ : ∃ A4 : Nat, A4 = 4 * k := ⟨_, rfl⟩
        have hA5 : 4 * (k : Int) = (A4 : Int) := by omega
        have hA6 : A4 ≤ 200 := by omega
        have HA4 := Hid.mk_ hA4
        clear hA4
        go_wp2
        go_loop [14, 15] (fun v j => ∃ q : Nat, q ≤ 4 ∧ j = .int .i64 q ∧ v = .int .i64 (Dp.toldTo T A4 q)) (fun _ j => 4 - (intOf j).toNat)
        case atStart => exact ⟨0, Nat.zero_le _, rfl, rfl⟩
        case round =>
          obtain ⟨q, hq, rfl, rfl⟩ := hrel
          have hbd := Dp.toldTo_bd T A4 q hq
          by_cases hq4 : q < 4
          · by_cases hin : A4 + q < T.length
            · have hg := Dp.str_get T (A4 + q) (by omega)
              have hbyte : (T[A4 + q]).toNat < 256 := UInt8.toNat_lt _
              have HS : Hid (Dp.toldTo T A4 (q + 1) = Dp.toldTo T A4 q * 256 + ((T[A4 + q]).toNat : Int)) := by
                show Dp.toldTo T A4 q * 256 + Dp.byteAt T ((A4 : Int) + (q : Int)) = _
                have := Dp.byteAt_in T (A4 + q) hin
                rw [List.getElem?_eq_getElem hin] at this
                simp only [Option.getD_some] at this
                rw [← this]; simp
              have hin' : (A4 : Int) + (q : Int) < (T.length : Int) := by omega
              go_wp2
              go_round
              case rel => exact ⟨q + 1, by omega, by go_num, by rw [HS.out]⟩
              case measure => simp [intOf]; omega
            · have HS : Hid (Dp.toldTo T A4 (q + 1) = Dp.toldTo T A4 q * 256) := by
                show Dp.toldTo T A4 q * 256 + Dp.byteAt T ((A4 : Int) + (q : Int)) = _
                rw [Dp.byteAt_out T _ (by omega), Int.add_zero]
              have hin' : ¬ (A4 : Int) + (q : Int) < (T.length : Int) := by omega
              go_wp2
              go_round
              case rel => exact ⟨q + 1, by omega, by go_num, by rw [HS.out]⟩
              case measure => simp [intOf]; omega
          · obtain rfl : q = 4 := by omega
            rw [Dp.toldTo_four] at hbd ⊢
            have hln := Dp.wholeTo_length T N k hk
            obtain ⟨I1, hI1⟩ : ∃ I1 : Nat, I1 = 100 + k := ⟨_, rfl⟩
            have hI2 : (100 : Int) + (k : Int) = (I1 : Int) := by omega
            have hI3 : I1 < 100 + N := by omega
            have c1 := HRWk.out.cellAt I1 (by rw [Dp.regCells_len, hln]; omega)
            have f1 := HRWk.out.frozen I1
            generalize (Dp.regCells (Dp.wholeTo T N k))[I1]'(by rw [Dp.regCells_len, hln]; omega) = y0 at c1
            have HRn : Hid (Dp.Row (wr.setCell ⟨GW, I1, none⟩ (.int .i64 (Dp.told T A4))) GW 3 (Dp.regCells (Dp.wholeTo T N (k + 1)))) := by
              have h := Dp.ints_set HRWk.out (100 + k) (Dp.told T A4)
              rw [HA4.out, Dp.wholeTo_set T N k hlt] at h
              rw [HA4.out, hI1]
              exact h
            have kset : Dp.Keeps (fun q => q = GW) wr (wr.setCell ⟨GW, I1, none⟩ (.int .i64 (Dp.told T A4))) := Dp.Keeps.setCell (S := fun q => q = GW) (p := ⟨GW, I1, none⟩) (Dp.Keeps.refl _ _) (.inr rfl) _
            have HMn := Hid.mk_ (HMk.out.keep kset (fun e => by omega) (fun q hq e => by have := HG9.out q hq; omega))
            have HRSn := Hid.mk_ (HRSk.out.keep kset (fun e => by omega))
            have HKn := Hid.mk_ (HKk.out.next kset (fun q hq e => by omega))
            have HCL : Hid (mf.cell (I1 : Int) = Dp.told T A4) := by
              unfold Hid
              show mf.cells.getD (I1 : Int).toNat 0 = _
              rw [HCE.out, Int.toNat_natCast, HA4.out, hI1]
              exact Dp.whole_cell T N k hlt
            clear HRWk HMk HRSk HKk kset hln hI1
            generalize hVT : Dp.told T A4 = VT at *
            clear hVT
            go_wp2_with fail
            refine (progMCell _ b G vs mf HMn.out (I1 : Int) (by omega)).mono ?_
            rintro e w12 ⟨rfl, rfl⟩
            rw [HCL.out]
            clear hI2 c1 f1
            go_wp2
            go_roundw
            case rel => exact ⟨k + 1, by omega, by go_num, HRn, HMn, HRSn, HKn⟩
            case measure => simp [intOf]; omega
      · obtain rfl : k = N := by omega
        have HIW : Hid (Dp.Ints wr (.slice (some ⟨GW, 0, none⟩) (100 + k) (100 + k)) (Dp.wholeOf T k)) := by
          have h := HRWk.out
          rw [Dp.wholeTo_all] at h
          have h2 := Dp.ints_row (cap := 100 + k) (xs := Dp.wholeOf T k) (post := []) (by rw [List.append_nil]; exact h) (by rw [Dp.wholeOf_length]; omega)
          rw [Dp.wholeOf_length] at h2
          exact h2
        go_wp2_with fail
        refine (progNew _ _ _ (Dp.wholeOf T k) [] HIW.out (Dp.parts_nil _) (Dp.whole_ok T k hN5)).mono ?_
        rintro e w13 ⟨⟨b2, vs2, G2, rfl, hb2, hG2, hM2⟩, k13⟩
        have HM13 := Hid.mk_ hM2
        have HRS13 := Hid.mk_ (HRSk.out.keep k13 (fun e => e))
        have HK13 := Hid.mk_ (HKk.out.trans k13)
        clear hM2 hG2 k13 HIW HRWk HMk HRSk HKk
        go_wp2
        have hS0 : Dp.Keeps (fun _ => False) w13 w13.drew := (Dp.Keeps.refl _ _).drew
        have q12 : ∀ wx, Dp.Keeps (fun _ => False) w13 wx → wx.cell? ⟨w7.heap.size, 12, none⟩ = some (.int .i64 R) := fun wx kx => ((HRS13.out.keep kx (fun e => e)).cell 12).trans (Dp.stCells_root S R hSl)
        refine Dp.wp_region_L (fun wx => Dp.Keeps (fun _ => False) w13 wx) 12 mixedP ?_
        refine' Dp.wpAnyL_take 0 rfl (by kernel_rfl) (fun _ _ _ h => h) (by rfl) ?hya0 hS0 ?resta0
        case hya0 => intro wx hSx; go_simp; try with_reducible rfl
        simp only [Act.put, List.getElem_toArray, List.getElem_cons_zero, List.setIfInBounds_toArray, List.set_cons_zero, List.set_cons_succ]
        refine' Dp.wpAnyL_take 1 rfl (by kernel_rfl) (fun _ _ _ h => h) (by rfl) ?hya1 hS0 ?resta1
        case hya1 => intro wx hSx; go_simp; try with_reducible rfl
        simp only [Act.put, List.getElem_toArray, List.getElem_cons_zero, List.getElem_cons_succ, List.setIfInBounds_toArray, List.set_cons_zero, List.set_cons_succ]
        refine' Dp.wpAnyL_take 2 rfl (by kernel_rfl) (fun _ _ _ h => h) (by rfl) ?hya2 hS0 ?resta2
        case hya2 => intro wx hSx; go_simp; try with_reducible rfl
        simp only [Act.put, List.getElem_toArray, List.getElem_cons_zero, List.getElem_cons_succ, List.setIfInBounds_toArray, List.set_cons_zero, List.set_cons_succ]
        refine' Dp.wpAnyL_take 3 rfl (by kernel_rfl) (fun _ _ _ h => h) (by rfl) ?hya3 hS0 ?resta3
        case hya3 => intro wx hSx; go_simp; try with_reducible rfl
        simp only [Act.put, List.getElem_toArray, List.getElem_cons_zero, List.getElem_cons_succ, List.setIfInBounds_toArray, List.set_cons_zero, List.set_cons_succ]
        refine' Dp.wpAnyL_take 4 rfl (by kernel_rfl) (fun _ _ _ h => h) (by rfl) ?hya4 hS0 ?resta4
        case hya4 => intro wx hSx; go_simp; try with_reducible rfl
        simp only [Act.put, List.getElem_toArray, List.getElem_cons_zero, List.getElem_cons_succ, List.setIfInBounds_toArray, List.set_cons_zero, List.set_cons_succ]
        refine' Dp.wpAnyL_take 5 rfl (by kernel_rfl) (fun _ _ _ h => h) (by rfl) ?hya5 hS0 ?resta5
        case hya5 => intro wx hSx; go_simp; try with_reducible rfl
        simp only [Act.put, List.getElem_toArray, List.getElem_cons_zero, List.getElem_cons_succ, List.setIfInBounds_toArray, List.set_cons_zero, List.set_cons_succ]
        refine' Dp.wpAnyL_take 6 rfl (by kernel_rfl) (fun _ _ _ h => h) (by rfl) ?hya6 hS0 ?resta6
        case hya6 => intro wx hSx; go_simp; try with_reducible rfl
        simp only [Act.put, List.getElem_toArray, List.getElem_cons_zero, List.getElem_cons_succ, List.setIfInBounds_toArray, List.set_cons_zero, List.set_cons_succ]
        refine' Dp.wpAnyL_take 7 rfl (by kernel_rfl) (fun _ _ _ h => h) (by rfl) ?hya7 hS0 ?resta7
        case hya7 => intro wx hSx; go_simp; try with_reducible rfl
        simp only [Act.put, List.getElem_toArray, List.getElem_cons_zero, List.getElem_cons_succ, List.setIfInBounds_toArray, List.set_cons_zero, List.set_cons_succ]
        refine' Dp.wpAnyL_take 10 rfl (by kernel_rfl) (fun _ _ _ h => h) (by rfl) ?hya10 hS0 ?resta10
        case hya10 => intro wx hSx; go_simp; try with_reducible rfl
        simp only [Act.put, List.getElem_toArray, List.getElem_cons_zero, List.getElem_cons_succ, List.setIfInBounds_toArray, List.set_cons_zero, List.set_cons_succ]
        refine' Dp.wpAnyL_take 11 rfl (by kernel_rfl) (fun _ _ _ h => h) (by rfl) ?hya11 hS0 ?resta11
        case hya11 => intro wx hSx; go_simp; try with_reducible rfl
        simp only [Act.put, List.getElem_toArray, List.getElem_cons_zero, List.getElem_cons_succ, List.setIfInBounds_toArray, List.set_cons_zero, List.set_cons_succ]
        refine Dp.wpAnyL_one 8 rfl (by kernel_rfl) (by rfl) (fun K hK => ?_)
        go_simp
        refine (progMLook w13.drew b2 G2 vs2 _ (HM13.out.keep hS0 (fun e => e) (fun _ _ e => e))).mono ?_
        rintro e w14 ⟨rfl, k14⟩
        rw [← HRT.out, show Dp.stVal (Dp.newMach (Dp.wholeOf T k) []).s R = .agg #[.int .i64 0, .int .i64 0, .int .i64 0, .bool false, .int .i64 0, .int .i64 0, .int .i64 0, .int .i64 0, .int .i64 0, .int .i64 0, .int .i64 0, .int .i64 0, .int .i64 R] from rfl]
        have hS1 : Dp.Keeps (fun _ => False) w13 w14 := hS0.trans k14
        have HK14 := Hid.mk_ (HK13.out.trans hS1)
        refine hK _ _ ⟨fun _ => hS1, ?_⟩
        clear hK K q12
        have hfld := fun wx => fieldRoot R wx
        refine' Dp.wpAnyL_take (v := .int .i64 R) 9 rfl (by kernel_rfl) (fun _ _ _ h => h) (by rfl) ?hyc9 hS1 ?restc9
        case hyc9 => intro wx hSx; go_simp; try with_reducible rfl
        simp only [Act.put, List.getElem_toArray, List.getElem_cons_zero, List.getElem_cons_succ, List.setIfInBounds_toArray, List.set_cons_zero, List.set_cons_succ]
        refine Dp.wpAnyL_rest (by kernel_rfl) ?_
        refine Dp.wpAny_tail 12 rfl (by kernel_rfl) ?_
        simp only [List.drop_succ_cons, List.drop_zero]
        go_wp2
        go_ret
        exact ⟨rfl, HK14.out⟩
  · have HTE : Hid (Dp.str l = Dp.str T) := by unfold Hid; rw [hT, Dp.cut200_small l hbig]
    clear hT hTl
    go_wp2_with (refine Dp.wpList_toBytes rfl _ _ _ rfl Tryd.underlying9 Tryd.underlying44 Tryd.underlying5 T (by show Value.string _ = Value.string _; rw [HTE.out]) (by have := HTL.out; unfold maxLen; omega) ?_)
    intro cap2 w2 hc2 z2 k2
    have HC2 := Hid.mk_ hc2
    rw [HTE.out]
    have HK2 := Hid.mk_ (HK.out.trans k2)
    clear hc2 k2 HK
    go_wp2_with fail
    have hP2 := Dp.conv_parts HC2.out 44
    rw [z2] at hP2
    refine (progSum1 _ _ _ hP2).mono ?_
    rintro e w3 ⟨rfl, ew3⟩
    have k3 := ((Dp.Keeps.refl (fun _ => False) w2).alloc (.cells #[.slice (some ⟨w1.heap.size, 0, none⟩) T.length cap2] 44))
    rw [← ew3] at k3
    have HK := Hid.mk_ (HK2.out.trans k3)
    rw [show [T].flatten = T by simp]
    clear hP2 ew3 k3 HK2 HC2 z2
    obtain ⟨N, hN⟩ : ∃ N : Nat, N = (T.length + 3) / 4 := ⟨_, rfl⟩
    have hNe : ((T.length : Int) + 3) / 4 = (N : Int) := by omega
    have hN5 : N ≤ 50 := by have := HTL.out; omega
    have hszT := Dp.str_size T
    have hT2 : T.length ≤ 200 := HTL.out
    have HN := Hid.mk_ hN
    clear hN
    have hsb := Dp.sum_bd T
    generalize hNM : Dp.sum T = NM at *
    have HNM := Hid.mk_ hNM
    clear hNM
    go_wp2_with (at_make; refine Dp.wpList_make_row _ rfl _ _ 37 rfl 3 (.int .i64 0) 8 Tryd.underlying37 infoInt rfl _ _ _ _ 12 rfl rfl (by omega) (by omega) (by omega) (by unfold maxLen; omega) ?_)
    intro w4 r4 z4 k4
    have r4' : Dp.Row w4 w3.heap.size 3 (Dp.regCells (List.replicate 12 0)) := r4
    have hg0 : w.heap.size ≤ w3.heap.size := HK.out.size
    generalize hG0 : w3.heap.size = G0 at *
    have HR := Hid.mk_ r4'
    have HL : Hid (∀ i, i < 12 → i < (List.replicate 12 (0 : Int)).length) := fun i hi => by rw [List.length_replicate]; exact hi
    replace HK := Hid.mk_ (HK.out.trans k4)
    have hgl : G0 < w4.heap.size := by omega
    clear r4 r4' k4 z4 hG0 hNe
    go_wp2_with fail
    refine (keepOp 13 1 0 _ (by omega) (by omega) (by omega)).mono ?_
    rintro e s0 ⟨rfl, ew⟩
    rw [show Dp.opw 13 1 0 = 880803840 from rfl]
    rw [← ew] at HR HK
    clear ew
    have c0 := HR.out.cellAt 0 (by rw [Dp.regCells_len]; exact HL.out 0 (by omega))
    have f0 := HR.out.frozen 0
    generalize (Dp.regCells (List.replicate 12 0))[0]'(by rw [Dp.regCells_len]; exact HL.out 0 (by omega)) = y at c0
    replace HR := Hid.mk_ (Dp.ints_set HR.out 0 880803850)
    replace HL : Hid (∀ i, i < 12 → i < ((List.replicate 12 0).set 0 880803850).length) := fun i hi => by rw [List.length_set]; exact HL.out i hi
    replace HK := Hid.mk_ (HK.out.setCell (p := ⟨G0, 0, none⟩) (.inl (by have := HK.out.size; omega)) (.int .i64 880803850))
    go_wp2_with fail
    refine (keepOp 13 2 0 _ (by omega) (by omega) (by omega)).mono ?_
    rintro e s1 ⟨rfl, ew⟩
    rw [show Dp.opw 13 2 0 = 889192448 from rfl]
    rw [← ew] at HR HK
    clear ew
    have c1 := HR.out.cellAt 1 (by rw [Dp.regCells_len]; exact HL.out 1 (by omega))
    have f1 := HR.out.frozen 1
    generalize (Dp.regCells ((List.replicate 12 0).set 0 880803850))[1]'(by rw [Dp.regCells_len]; exact HL.out 1 (by omega)) = y at c1
    replace HR := Hid.mk_ (Dp.ints_set HR.out 1 889192459)
    replace HL : Hid (∀ i, i < 12 → i < (((List.replicate 12 0).set 0 880803850).set 1 889192459).length) := fun i hi => by rw [List.length_set]; exact HL.out i hi
    replace HK := Hid.mk_ (HK.out.setCell (p := ⟨G0, 1, none⟩) (.inl (by have := HK.out.size; omega)) (.int .i64 889192459))
    go_wp2_with fail
    refine (keepOp 15 3 2 _ (by omega) (by omega) (by omega)).mono ?_
    rintro e s2 ⟨rfl, ew⟩
    rw [show Dp.opw 15 3 2 = 1033895936 from rfl]
    rw [← ew] at HR HK
    clear ew
    have c2 := HR.out.cellAt 2 (by rw [Dp.regCells_len]; exact HL.out 2 (by omega))
    have f2 := HR.out.frozen 2
    generalize (Dp.regCells (((List.replicate 12 0).set 0 880803850).set 1 889192459))[2]'(by rw [Dp.regCells_len]; exact HL.out 2 (by omega)) = y at c2
    replace HR := Hid.mk_ (Dp.ints_set HR.out 2 1033895941)
    replace HL : Hid (∀ i, i < 12 → i < ((((List.replicate 12 0).set 0 880803850).set 1 889192459).set 2 1033895941).length) := fun i hi => by rw [List.length_set]; exact HL.out i hi
    replace HK := Hid.mk_ (HK.out.setCell (p := ⟨G0, 2, none⟩) (.inl (by have := HK.out.size; omega)) (.int .i64 1033895941))
    go_wp2_with fail
    refine (keepOp 19 5 1 _ (by omega) (by omega) (by omega)).mono ?_
    rintro e s3 ⟨rfl, ew⟩
    rw [show Dp.opw 19 5 1 = 1318060032 from rfl]
    rw [← ew] at HR HK
    clear ew
    have c3 := HR.out.cellAt 3 (by rw [Dp.regCells_len]; exact HL.out 3 (by omega))
    have f3 := HR.out.frozen 3
    generalize (Dp.regCells ((((List.replicate 12 0).set 0 880803850).set 1 889192459).set 2 1033895941))[3]'(by rw [Dp.regCells_len]; exact HL.out 3 (by omega)) = y at c3
    replace HR := Hid.mk_ (Dp.ints_set HR.out 3 1318584320)
    replace HL : Hid (∀ i, i < 12 → i < (((((List.replicate 12 0).set 0 880803850).set 1 889192459).set 2 1033895941).set 3 1318584320).length) := fun i hi => by rw [List.length_set]; exact HL.out i hi
    replace HK := Hid.mk_ (HK.out.setCell (p := ⟨G0, 3, none⟩) (.inl (by have := HK.out.size; omega)) (.int .i64 1318584320))
    go_wp2_with fail
    refine (keepOp 14 5 3 _ (by omega) (by omega) (by omega)).mono ?_
    rintro e s4 ⟨rfl, ew⟩
    rw [show Dp.opw 14 5 3 = 984612864 from rfl]
    rw [← ew] at HR HK
    clear ew
    have c4 := HR.out.cellAt 4 (by rw [Dp.regCells_len]; exact HL.out 4 (by omega))
    have f4 := HR.out.frozen 4
    generalize (Dp.regCells (((((List.replicate 12 0).set 0 880803850).set 1 889192459).set 2 1033895941).set 3 1318584320))[4]'(by rw [Dp.regCells_len]; exact HL.out 4 (by omega)) = y at c4
    replace HR := Hid.mk_ (Dp.ints_set HR.out 4 984612964)
    replace HL : Hid (∀ i, i < 12 → i < ((((((List.replicate 12 0).set 0 880803850).set 1 889192459).set 2 1033895941).set 3 1318584320).set 4 984612964).length) := fun i hi => by rw [List.length_set]; exact HL.out i hi
    replace HK := Hid.mk_ (HK.out.setCell (p := ⟨G0, 4, none⟩) (.inl (by have := HK.out.size; omega)) (.int .i64 984612964))
    go_wp2_with fail
    refine (keepOp 11 3 3 _ (by omega) (by omega) (by omega)).mono ?_
    rintro e s5 ⟨rfl, ew⟩
    rw [show Dp.opw 11 3 3 = 766509056 from rfl]
    rw [← ew] at HR HK
    clear ew
    have c5 := HR.out.cellAt 5 (by rw [Dp.regCells_len]; exact HL.out 5 (by omega))
    have f5 := HR.out.frozen 5
    generalize (Dp.regCells ((((((List.replicate 12 0).set 0 880803850).set 1 889192459).set 2 1033895941).set 3 1318584320).set 4 984612964))[5]'(by rw [Dp.regCells_len]; exact HL.out 5 (by omega)) = y at c5
    replace HR := Hid.mk_ (Dp.ints_set HR.out 5 766509057)
    replace HL : Hid (∀ i, i < 12 → i < (((((((List.replicate 12 0).set 0 880803850).set 1 889192459).set 2 1033895941).set 3 1318584320).set 4 984612964).set 5 766509057).length) := fun i hi => by rw [List.length_set]; exact HL.out i hi
    replace HK := Hid.mk_ (HK.out.setCell (p := ⟨G0, 5, none⟩) (.inl (by have := HK.out.size; omega)) (.int .i64 766509057))
    go_wp2_with fail
    refine (keepOp 11 4 4 _ (by omega) (by omega) (by omega)).mono ?_
    rintro e s6 ⟨rfl, ew⟩
    rw [show Dp.opw 11 4 4 = 775946240 from rfl]
    rw [← ew] at HR HK
    clear ew
    have c6 := HR.out.cellAt 6 (by rw [Dp.regCells_len]; exact HL.out 6 (by omega))
    have f6 := HR.out.frozen 6
    generalize (Dp.regCells (((((((List.replicate 12 0).set 0 880803850).set 1 889192459).set 2 1033895941).set 3 1318584320).set 4 984612964).set 5 766509057))[6]'(by rw [Dp.regCells_len]; exact HL.out 6 (by omega)) = y at c6
    replace HR := Hid.mk_ (Dp.ints_set HR.out 6 775946244)
    replace HL : Hid (∀ i, i < 12 → i < ((((((((List.replicate 12 0).set 0 880803850).set 1 889192459).set 2 1033895941).set 3 1318584320).set 4 984612964).set 5 766509057).set 6 775946244).length) := fun i hi => by rw [List.length_set]; exact HL.out i hi
    replace HK := Hid.mk_ (HK.out.setCell (p := ⟨G0, 6, none⟩) (.inl (by have := HK.out.size; omega)) (.int .i64 775946244))
    go_wp2_with fail
    refine (keepOp 18 6 0 _ (by omega) (by omega) (by omega)).mono ?_
    rintro e s7 ⟨rfl, ew⟩
    rw [show Dp.opw 18 6 0 = 1258291200 from rfl]
    rw [← ew] at HR HK
    clear ew
    have c7 := HR.out.cellAt 7 (by rw [Dp.regCells_len]; exact HL.out 7 (by omega))
    have f7 := HR.out.frozen 7
    generalize (Dp.regCells ((((((((List.replicate 12 0).set 0 880803850).set 1 889192459).set 2 1033895941).set 3 1318584320).set 4 984612964).set 5 766509057).set 6 775946244))[7]'(by rw [Dp.regCells_len]; exact HL.out 7 (by omega)) = y at c7
    replace HR := Hid.mk_ (Dp.ints_set HR.out 7 1258291202)
    replace HL : Hid (∀ i, i < 12 → i < (((((((((List.replicate 12 0).set 0 880803850).set 1 889192459).set 2 1033895941).set 3 1318584320).set 4 984612964).set 5 766509057).set 6 775946244).set 7 1258291202).length) := fun i hi => by rw [List.length_set]; exact HL.out i hi
    replace HK := Hid.mk_ (HK.out.setCell (p := ⟨G0, 7, none⟩) (.inl (by have := HK.out.size; omega)) (.int .i64 1258291202))
    go_wp2_with fail
    refine (keepOp 0 3 0 _ (by omega) (by omega) (by omega)).mono ?_
    rintro e s8 ⟨rfl, ew⟩
    rw [show Dp.opw 0 3 0 = 25165824 from rfl]
    rw [← ew] at HR HK
    clear ew
    have c8 := HR.out.cellAt 8 (by rw [Dp.regCells_len]; exact HL.out 8 (by omega))
    have f8 := HR.out.frozen 8
    generalize (Dp.regCells (((((((((List.replicate 12 0).set 0 880803850).set 1 889192459).set 2 1033895941).set 3 1318584320).set 4 984612964).set 5 766509057).set 6 775946244).set 7 1258291202))[8]'(by rw [Dp.regCells_len]; exact HL.out 8 (by omega)) = y at c8
    have d10 := HR.out.cellAt 10 (by rw [Dp.regCells_len]; exact HL.out 10 (by omega))
    have e10 := HR.out.frozen 10
    generalize (Dp.regCells (((((((((List.replicate 12 0).set 0 880803850).set 1 889192459).set 2 1033895941).set 3 1318584320).set 4 984612964).set 5 766509057).set 6 775946244).set 7 1258291202))[10]'(by rw [Dp.regCells_len]; exact HL.out 10 (by omega)) = z at d10
    have d11 := HR.out.cellAt 11 (by rw [Dp.regCells_len]; exact HL.out 11 (by omega))
    have e11 := HR.out.frozen 11
    generalize (Dp.regCells (((((((((List.replicate 12 0).set 0 880803850).set 1 889192459).set 2 1033895941).set 3 1318584320).set 4 984612964).set 5 766509057).set 6 775946244).set 7 1258291202))[11]'(by rw [Dp.regCells_len]; exact HL.out 11 (by omega)) = z at d11
    replace HR := Hid.mk_ (Dp.ints_set HR.out 8 25165824)
    replace HL : Hid (∀ i, i < 12 → i < ((((((((((List.replicate 12 0).set 0 880803850).set 1 889192459).set 2 1033895941).set 3 1318584320).set 4 984612964).set 5 766509057).set 6 775946244).set 7 1258291202).set 8 25165824).length) := fun i hi => by rw [List.length_set]; exact HL.out i hi
    replace HK := Hid.mk_ (HK.out.setCell (p := ⟨G0, 8, none⟩) (.inl (by have := HK.out.size; omega)) (.int .i64 25165824))
    replace HR := Hid.mk_ (Dp.ints_set (Dp.ints_set HR.out 10 NM) 11 N)
    replace HK := Hid.mk_ ((HK.out.setCell (p := ⟨G0, 10, none⟩) (.inl (by have := HK.out.size; omega)) (.int .i64 NM)).setCell (p := ⟨G0, 11, none⟩) (.inl (by have := HK.out.size; omega)) (.int .i64 N))
    have hLL : ((((((((((((List.replicate 12 0).set 0 880803850).set 1 889192459).set 2 1033895941).set 3 1318584320).set 4 984612964).set 5 766509057).set 6 775946244).set 7 1258291202).set 8 25165824).set 10 NM).set 11 (N : Int)) = Dp.copyProg NM N := rfl
    rw [hLL] at HR
    clear HL hLL
    go_wp2_with (refine Dp.wpList_toBytes rfl _ _ _ rfl Tryd.underlying9 Tryd.underlying58 Tryd.underlying5 T rfl (by have := HTL.out; unfold maxLen; omega) ?_)
    intro cap5 w5 hc5 z5 k5
    replace HR := Hid.mk_ (HR.out.keep k5 (fun e => e))
    replace HK := Hid.mk_ (HK.out.trans k5)
    have HC5 := Hid.mk_ hc5
    clear hc5 k5
    go_wp2_with fail
    have hP5 := Dp.conv_parts HC5.out 58
    rw [z5] at hP5
    have kal := ((Dp.Keeps.refl (fun _ => False) w5).alloc (.cells #[.slice (some ⟨s8.heap.size, 0, none⟩) T.length cap5] 58))
    replace HR := Hid.mk_ (HR.out.keep kal (fun e => e))
    replace HK := Hid.mk_ (HK.out.trans kal)
    have hg5 := HR.out.lt
    refine (progNew _ _ _ (Dp.copyProg NM N) [T] (Dp.ints_row (xs := Dp.copyProg NM N) (post := []) (by rw [List.append_nil]; exact HR.out) (by simp [Dp.copyProg])) hP5 (by rw [← HNM.out]; exact Dp.copy_ok T N HTL.out hN5)).mono ?_
    rintro e wn ⟨⟨b, vs, G, rfl, hb, hG, hM⟩, kn⟩
    have hbw : w.heap.size ≤ b := by have := HK.out.size; omega
    replace HR := Hid.mk_ (HR.out.keep kn (fun e => e))
    replace HK := Hid.mk_ (HK.out.trans kn)
    have hbg : G0 ≠ b := by omega
    clear hg5
    have HM := Hid.mk_ hM
    clear hM kn hP5 hG kal hb
    obtain ⟨mf, hrun, hov, hco, hce⟩ := Dp.copied T N hN5
    rw [HNM.out] at hrun
    have HOV := Hid.mk_ hov
    have HCO := Hid.mk_ hco
    have HCE := Hid.mk_ hce
    have HRUN := Hid.mk_ hrun
    clear hov hco hce hrun
    go_wp2_with fail
    refine (progMRun wn b G vs _ HM.out 2000 (by omega)).mono ?_
    rintro e w6 ⟨rfl, k6, hM6⟩
    rw [HRUN.out] at hM6 ⊢
    have hM6' : Dp.ProgM w6 b G vs mf := hM6
    replace HM := Hid.mk_ hM6'
    replace HR := Hid.mk_ (HR.out.keep k6 (fun e => hbg e))
    replace HK := Hid.mk_ (HK.out.next k6 (fun q hq e => by omega))
    rw [show ((3 + 6 * N + 1 : Nat) : Int) = 3 + 6 * (N : Int) + 1 by omega]
    clear k6 hM6 hM6' HRUN
    go_wp2_with fail
    have hok := HM.out.ok
    refine (progMLook w6 b G vs _ HM.out).mono ?_
    rintro e w7 ⟨rfl, k7⟩
    replace HM := Hid.mk_ (HM.out.keep k7 (fun e => e) (fun _ _ e => e))
    replace HR := Hid.mk_ (HR.out.keep k7 (fun e => e))
    replace HK := Hid.mk_ (HK.out.trans k7)
    obtain ⟨S, R, hS, hRt⟩ : ∃ S : Dp.Cs, ∃ R : Int, S = mf.s ∧ R = Dp.root mf.cells := ⟨_, _, rfl, rfl⟩
    rw [← hS, ← hRt]
    have hSl : S.regs.length = 8 := by rw [hS]; exact hok.s.len
    have hSo : S.over = true := by rw [hS]; exact HOV.out
    have hSc : S.code = N := by rw [hS]; exact HCO.out
    have HRT : Hid (R = Dp.root (Dp.newMach (Dp.wholeOf T N) []).cells) := by unfold Hid; rw [hRt, HCE.out]
    clear hS hRt hok k7
    have HML : Hid ((Dp.stCells S R).length = 13) := Dp.stCells_length _ _ hSl
    go_wp2_with (refine Dp.wpList_alloc_row rfl 35 rfl _ zeroState ?_)
    intro w8 r8 z8 k8
    have HR8 := Hid.mk_ (Dp.row_nil r8)
    go_wp2_with (refine Dp.wpList_store_in rfl 35 _ _ rfl w7.heap.size 0 rfl (Dp.stCells S R) rfl 35 [] _ [] HR8.out rfl (by rw [HML.out]; rfl) (by rw [sizeState, HML.out]) (Dp.stCells_one _ _) ?_)
    intro w9 r9 z9 k9
    have r9' : Dp.Row w9 w7.heap.size 35 (Dp.stCells S R) := by simpa using r9
    have k79 : Dp.Keeps (fun _ => False) w7 w9 := k8.next k9 (fun k hk e => by omega)
    have a2 : w9.cell? ⟨w7.heap.size, 2, none⟩ = some (.int .i64 S.code) := r9'.cell 2
    have a3 : w9.cell? ⟨w7.heap.size, 3, none⟩ = some (.bool S.over) := r9'.cell 3
    rw [hSc] at a2
    rw [hSo] at a3
    have HRS := Hid.mk_ r9'
    replace HM := Hid.mk_ (HM.out.keep k79 (fun e => e) (fun _ _ e => e))
    replace HR := Hid.mk_ (HR.out.keep k79 (fun e => e))
    replace HK := Hid.mk_ (HK.out.trans k79)
    clear r8 r9 r9' HR8 k8 k9 k79 z8 z9 HML hSo hSc
    go_wp2_with (at_make; refine Dp.wpList_make_row _ rfl _ _ 37 rfl 3 (.int .i64 0) 8 Tryd.underlying37 infoInt rfl _ _ _ _ (100 + N) rfl rfl (by omega) (by omega) (by omega) (by unfold maxLen; omega) ?_)
    intro w10 r10 z10 k10
    have hb9 : b < w9.heap.size := HM.out.row.lt
    have HG9 : Hid (∀ q, G q → q < w9.heap.size) := fun q hq => (HM.out.own q hq).1
    have hg9 : G0 < w9.heap.size := HR.out.lt
    have hs9 : w7.heap.size < w9.heap.size := HRS.out.lt
    have hw9 : w.heap.size ≤ w9.heap.size := HK.out.size
    replace HM := Hid.mk_ (HM.out.keep k10 (fun e => e) (fun _ _ e => e))
    replace HR := Hid.mk_ (HR.out.keep k10 (fun e => e))
    replace HRS := Hid.mk_ (HRS.out.keep k10 (fun e => e))
    replace HK := Hid.mk_ (HK.out.trans k10)
    have HRW : Hid (Dp.Row w10 w9.heap.size 3 (List.replicate (100 + N) (.int .i64 0))) := r10
    clear r10 k10 a2 a3
    generalize hGW : w9.heap.size = GW at *
    clear hGW
    have HCP : Hid (0 < (Dp.regCells (Dp.copyProg NM N)).length → ∃ ad, (some ⟨G0, 0, none⟩ : Option Addr) = some ad ∧ ∀ j v, (Dp.regCells (Dp.copyProg NM N))[j]? = some v → w10.cell? (ad.add j) = some v) := by
      intro _
      refine ⟨_, rfl, fun j v hj => ?_⟩
      rw [Dp.add_zero_off, HR.out.cell]
      exact hj
    go_wp2_with (refine Dp.wpList_copy_wide rfl _ _ 37 37 rfl 3 1 Tryd.underlying37 sizeIntT GW (100 + N) (100 + N) (some ⟨G0, 0, none⟩) 12 12 rfl rfl 3 (Dp.regCells (Dp.copyProg NM N)) (List.replicate (100 + N) (.int .i64 0)) HRW.out rfl (by omega) (by rw [List.length_replicate]; show 12 ≤ 100 + N; omega) (Dp.regCells_one _) HCP.out ?_)
    intro w11 r11 z11 k11
    have HRW2 : Hid (Dp.Row w11 GW 3 (Dp.regCells (Dp.wholeTo T N 0))) := by
      rw [← HNM.out] at r11
      have h := Dp.wholeTo_zero T N
      rw [← h]
      exact r11
    replace HM := Hid.mk_ (HM.out.keep k11 (fun e => by omega) (fun q hq e => by have := HG9.out q hq; omega))
    replace HRS := Hid.mk_ (HRS.out.keep k11 (fun e => by omega))
    replace HK := Hid.mk_ (HK.out.next k11 (fun q hq e => by omega))
    clear r11 k11 HCP HRW HR z10 z11
    go_wp2
    go_loopw [13] (fun i wr => ∃ k : Nat, k ≤ N ∧ i = .int .i64 k ∧ Hid (Dp.Row wr GW 3 (Dp.regCells (Dp.wholeTo T N k))) ∧ Hid (Dp.ProgM wr b G vs mf) ∧ Hid (Dp.Row wr w7.heap.size 35 (Dp.stCells S R)) ∧ Hid (Dp.Keeps (fun _ => False) w wr)) (fun i _ => N - (intOf i).toNat)
    case atStart => exact ⟨0, Nat.zero_le _, rfl, HRW2, HM, HRS, HK⟩
    case round =>
      obtain ⟨k, hk, rfl, HRWk, HMk, HRSk, HKk⟩ := hrel
      clear HRW2 HM HRS HK
      by_cases hlt : k < N
      · obtain ⟨A4, hA4⟩ : ∃ A4 : Nat, A4 = 4 * k := ⟨_, rfl⟩
        have hA5 : 4 * (k : Int) = (A4 : Int) := by omega
        have hA6 : A4 ≤ 200 := by omega
        have HA4 := Hid.mk_ hA4
        clear hA4
        go_wp2
        go_loop [14, 15] (fun v j => ∃ q : Nat, q ≤ 4 ∧ j = .int .i64 q ∧ v = .int .i64 (Dp.toldTo T A4 q)) (fun _ j => 4 - (intOf j).toNat)
        case atStart => exact ⟨0, Nat.zero_le _, rfl, rfl⟩
        case round =>
          obtain ⟨q, hq, rfl, rfl⟩ := hrel
          have hbd := Dp.toldTo_bd T A4 q hq
          by_cases hq4 : q < 4
          · by_cases hin : A4 + q < T.length
            · have hg := Dp.str_get T (A4 + q) (by omega)
              have hbyte : (T[A4 + q]).toNat < 256 := UInt8.toNat_lt _
              have HS : Hid (Dp.toldTo T A4 (q + 1) = Dp.toldTo T A4 q * 256 + ((T[A4 + q]).toNat : Int)) := by
                show Dp.toldTo T A4 q * 256 + Dp.byteAt T ((A4 : Int) + (q : Int)) = _
                have := Dp.byteAt_in T (A4 + q) hin
                rw [List.getElem?_eq_getElem hin] at this
                simp only [Option.getD_some] at this
                rw [← this]; simp
              have hin' : (A4 : Int) + (q : Int) < (T.length : Int) := by omega
              go_wp2
              go_round
              case rel => exact ⟨q + 1, by omega, by go_num, by rw [HS.out]⟩
              case measure => simp [intOf]; omega
            · have HS : Hid (Dp.toldTo T A4 (q + 1) = Dp.toldTo T A4 q * 256) := by
                show Dp.toldTo T A4 q * 256 + Dp.byteAt T ((A4 : Int) + (q : Int)) = _
                rw [Dp.byteAt_out T _ (by omega), Int.add_zero]
              have hin' : ¬ (A4 : Int) + (q : Int) < (T.length : Int) := by omega
              go_wp2
              go_round
              case rel => exact ⟨q + 1, by omega, by go_num, by rw [HS.out]⟩
              case measure => simp [intOf]; omega
          · obtain rfl : q = 4 := by omega
            rw [Dp.toldTo_four] at hbd ⊢
            have hln := Dp.wholeTo_length T N k hk
            obtain ⟨I1, hI1⟩ : ∃ I1 : Nat, I1 = 100 + k := ⟨_, rfl⟩
            have hI2 : (100 : Int) + (k : Int) = (I1 : Int) := by omega
            have hI3 : I1 < 100 + N := by omega
            have c1 := HRWk.out.cellAt I1 (by rw [Dp.regCells_len, hln]; omega)
            have f1 := HRWk.out.frozen I1
            generalize (Dp.regCells (Dp.wholeTo T N k))[I1]'(by rw [Dp.regCells_len, hln]; omega) = y0 at c1
            have HRn : Hid (Dp.Row (wr.setCell ⟨GW, I1, none⟩ (.int .i64 (Dp.told T A4))) GW 3 (Dp.regCells (Dp.wholeTo T N (k + 1)))) := by
              have h := Dp.ints_set HRWk.out (100 + k) (Dp.told T A4)
              rw [HA4.out, Dp.wholeTo_set T N k hlt] at h
              rw [HA4.out, hI1]
              exact h
            have kset : Dp.Keeps (fun q => q = GW) wr (wr.setCell ⟨GW, I1, none⟩ (.int .i64 (Dp.told T A4))) := Dp.Keeps.setCell (S := fun q => q = GW) (p := ⟨GW, I1, none⟩) (Dp.Keeps.refl _ _) (.inr rfl) _
            have HMn := Hid.mk_ (HMk.out.keep kset (fun e => by omega) (fun q hq e => by have := HG9.out q hq; omega))
            have HRSn := Hid.mk_ (HRSk.out.keep kset (fun e => by omega))
            have HKn := Hid.mk_ (HKk.out.next kset (fun q hq e => by omega))
            have HCL : Hid (mf.cell (I1 : Int) = Dp.told T A4) := by
              unfold Hid
              show mf.cells.getD (I1 : Int).toNat 0 = _
              rw [HCE.out, Int.toNat_natCast, HA4.out, hI1]
              exact Dp.whole_cell T N k hlt
            clear HRWk HMk HRSk HKk kset hln hI1
            generalize hVT : Dp.told T A4 = VT at *
            clear hVT
            go_wp2_with fail
            refine (progMCell _ b G vs mf HMn.out (I1 : Int) (by omega)).mono ?_
            rintro e w12 ⟨rfl, rfl⟩
            rw [HCL.out]
            clear hI2 c1 f1
            go_wp2
            go_roundw
            case rel => exact ⟨k + 1, by omega, by go_num, HRn, HMn, HRSn, HKn⟩
            case measure => simp [intOf]; omega
      · obtain rfl : k = N := by omega
        have HIW : Hid (Dp.Ints wr (.slice (some ⟨GW, 0, none⟩) (100 + k) (100 + k)) (Dp.wholeOf T k)) := by
          have h := HRWk.out
          rw [Dp.wholeTo_all] at h
          have h2 := Dp.ints_row (cap := 100 + k) (xs := Dp.wholeOf T k) (post := []) (by rw [List.append_nil]; exact h) (by rw [Dp.wholeOf_length]; omega)
          rw [Dp.wholeOf_length] at h2
          exact h2
        go_wp2_with fail
        refine (progNew _ _ _ (Dp.wholeOf T k) [] HIW.out (Dp.parts_nil _) (Dp.whole_ok T k hN5)).mono ?_
        rintro e w13 ⟨⟨b2, vs2, G2, rfl, hb2, hG2, hM2⟩, k13⟩
        have HM13 := Hid.mk_ hM2
        have HRS13 := Hid.mk_ (HRSk.out.keep k13 (fun e => e))
        have HK13 := Hid.mk_ (HKk.out.trans k13)
        clear hM2 hG2 k13 HIW HRWk HMk HRSk HKk
        go_wp2
        have hS0 : Dp.Keeps (fun _ => False) w13 w13.drew := (Dp.Keeps.refl _ _).drew
        have q12 : ∀ wx, Dp.Keeps (fun _ => False) w13 wx → wx.cell? ⟨w7.heap.size, 12, none⟩ = some (.int .i64 R) := fun wx kx => ((HRS13.out.keep kx (fun e => e)).cell 12).trans (Dp.stCells_root S R hSl)
        refine Dp.wp_region_L (fun wx => Dp.Keeps (fun _ => False) w13 wx) 12 mixedP ?_
        refine' Dp.wpAnyL_take 0 rfl (by kernel_rfl) (fun _ _ _ h => h) (by rfl) ?hyx0 hS0 ?restx0
        case hyx0 => intro wx hSx; go_simp; try with_reducible rfl
        simp only [Act.put, List.getElem_toArray, List.getElem_cons_zero, List.setIfInBounds_toArray, List.set_cons_zero, List.set_cons_succ]
        refine' Dp.wpAnyL_take 1 rfl (by kernel_rfl) (fun _ _ _ h => h) (by rfl) ?hyx1 hS0 ?restx1
        case hyx1 => intro wx hSx; go_simp; try with_reducible rfl
        simp only [Act.put, List.getElem_toArray, List.getElem_cons_zero, List.getElem_cons_succ, List.setIfInBounds_toArray, List.set_cons_zero, List.set_cons_succ]
        refine' Dp.wpAnyL_take 2 rfl (by kernel_rfl) (fun _ _ _ h => h) (by rfl) ?hyx2 hS0 ?restx2
        case hyx2 => intro wx hSx; go_simp; try with_reducible rfl
        simp only [Act.put, List.getElem_toArray, List.getElem_cons_zero, List.getElem_cons_succ, List.setIfInBounds_toArray, List.set_cons_zero, List.set_cons_succ]
        refine' Dp.wpAnyL_take 3 rfl (by kernel_rfl) (fun _ _ _ h => h) (by rfl) ?hyx3 hS0 ?restx3
        case hyx3 => intro wx hSx; go_simp; try with_reducible rfl
        simp only [Act.put, List.getElem_toArray, List.getElem_cons_zero, List.getElem_cons_succ, List.setIfInBounds_toArray, List.set_cons_zero, List.set_cons_succ]
        refine' Dp.wpAnyL_take 4 rfl (by kernel_rfl) (fun _ _ _ h => h) (by rfl) ?hyx4 hS0 ?restx4
        case hyx4 => intro wx hSx; go_simp; try with_reducible rfl
        simp only [Act.put, List.getElem_toArray, List.getElem_cons_zero, List.getElem_cons_succ, List.setIfInBounds_toArray, List.set_cons_zero, List.set_cons_succ]
        refine' Dp.wpAnyL_take 5 rfl (by kernel_rfl) (fun _ _ _ h => h) (by rfl) ?hyx5 hS0 ?restx5
        case hyx5 => intro wx hSx; go_simp; try with_reducible rfl
        simp only [Act.put, List.getElem_toArray, List.getElem_cons_zero, List.getElem_cons_succ, List.setIfInBounds_toArray, List.set_cons_zero, List.set_cons_succ]
        refine' Dp.wpAnyL_take 6 rfl (by kernel_rfl) (fun _ _ _ h => h) (by rfl) ?hyx6 hS0 ?restx6
        case hyx6 => intro wx hSx; go_simp; try with_reducible rfl
        simp only [Act.put, List.getElem_toArray, List.getElem_cons_zero, List.getElem_cons_succ, List.setIfInBounds_toArray, List.set_cons_zero, List.set_cons_succ]
        refine' Dp.wpAnyL_take 7 rfl (by kernel_rfl) (fun _ _ _ h => h) (by rfl) ?hyx7 hS0 ?restx7
        case hyx7 => intro wx hSx; go_simp; try with_reducible rfl
        simp only [Act.put, List.getElem_toArray, List.getElem_cons_zero, List.getElem_cons_succ, List.setIfInBounds_toArray, List.set_cons_zero, List.set_cons_succ]
        refine' Dp.wpAnyL_take 10 rfl (by kernel_rfl) (fun _ _ _ h => h) (by rfl) ?hyx10 hS0 ?restx10
        case hyx10 => intro wx hSx; go_simp; try with_reducible rfl
        simp only [Act.put, List.getElem_toArray, List.getElem_cons_zero, List.getElem_cons_succ, List.setIfInBounds_toArray, List.set_cons_zero, List.set_cons_succ]
        refine' Dp.wpAnyL_take 11 rfl (by kernel_rfl) (fun _ _ _ h => h) (by rfl) ?hyx11 hS0 ?restx11
        case hyx11 => intro wx hSx; go_simp; try with_reducible rfl
        simp only [Act.put, List.getElem_toArray, List.getElem_cons_zero, List.getElem_cons_succ, List.setIfInBounds_toArray, List.set_cons_zero, List.set_cons_succ]
        refine Dp.wpAnyL_one 8 rfl (by kernel_rfl) (by rfl) (fun K hK => ?_)
        go_simp
        refine (progMLook w13.drew b2 G2 vs2 _ (HM13.out.keep hS0 (fun e => e) (fun _ _ e => e))).mono ?_
        rintro e w14 ⟨rfl, k14⟩
        rw [← HRT.out, show Dp.stVal (Dp.newMach (Dp.wholeOf T k) []).s R = .agg #[.int .i64 0, .int .i64 0, .int .i64 0, .bool false, .int .i64 0, .int .i64 0, .int .i64 0, .int .i64 0, .int .i64 0, .int .i64 0, .int .i64 0, .int .i64 0, .int .i64 R] from rfl]
        have hS1 : Dp.Keeps (fun _ => False) w13 w14 := hS0.trans k14
        have HK14 := Hid.mk_ (HK13.out.trans hS1)
        refine hK _ _ ⟨fun _ => hS1, ?_⟩
        clear hK K q12
        have hfld := fun wx => fieldRoot R wx
        refine' Dp.wpAnyL_take (v := .int .i64 R) 9 rfl (by kernel_rfl) (fun _ _ _ h => h) (by rfl) ?hyz9 hS1 ?restz9
        case hyz9 => intro wx hSx; go_simp; try with_reducible rfl
        simp only [Act.put, List.getElem_toArray, List.getElem_cons_zero, List.getElem_cons_succ, List.setIfInBounds_toArray, List.set_cons_zero, List.set_cons_succ]
        refine Dp.wpAnyL_rest (by kernel_rfl) ?_
        refine Dp.wpAny_tail 12 rfl (by kernel_rfl) ?_
        simp only [List.drop_succ_cons, List.drop_zero]
        go_wp2
        go_ret
        exact ⟨rfl, HK14.out⟩
end Go.Proofs.YtdipojfngdceoaaDoor
