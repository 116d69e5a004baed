/- Steps on the way: RefCheckCell. -/
import Derived.Test.YtdipojfngdceoaaGreatDoorShQ07
import Derived.Test.YtdipojfngdceoaaGreatDoorShQ09
import Derived.Test.YtdipojfngdceoaaGreatDoorShQ11
import Derived.Test.YtdipojfngdceoaaGreatDoorShQ19
import Derived.Test.YtdipojfngdceoaaGreatDoorShQ30
import Derived.Deep.DeepCutAuto
namespace Go.Proofs.YtdipojfngdceoaaGreatDoor
open Go.RowKit
namespace Dp
theorem str_drop (l : List UInt8) (k : Nat) : (str l).extract k (str l).size = str (l.drop k) := by
 rw [str_extract]
 unfold part
 rw [str_size, List.take_of_length_le (by rw [List.length_drop]; omega)]
theorem str_take (l : List UInt8) (k : Nat) : (str l).extract 0 k = str (l.take k) := by
 rw [str_extract]
 unfold part
 simp
end Dp
theorem runLoadIns {w : World} {p : Nat} {e : TypeId} {i : Dp.Ins} (h : Dp.Row w p e (Dp.insCells i)) : (Instr.loadAt 143 (.pointer (some ⟨p, 0, none⟩))).run Tryz.prog w = .ok (.agg (Dp.insCells i).toArray) w :=
 run_loadAt_mid w p 0 143 _ _ (Dp.Row.range (pre := []) (post := []) (by simpa using h)) Tryz.underlying143 rfl (by rw [sizeIns]; rfl)
theorem refLabelX (s : Dp.Cs) (root : Int) (w : World) (hs : s.Ok) (hr : 0 ≤ root ∧ root < 65536) :
  Calls Tryz.prog 92 #[.agg (Dp.stCells s root).toArray] w fun e w' => e = .returned (.string (Dp.str (Dp.label s root))) ∧ Dp.Keeps (fun _ => False) w w' := refLabel s root w hs hr
set_option maxRecDepth 100000 in
set_option maxHeartbeats 2000000 in
theorem refCheckCell (l : List UInt8) (s : Dp.Cs) (root : Int) (i : Dp.Ins) (w : World) (hs : s.Ok) (hi : i.Ok) (hr : 0 ≤ root ∧ root < 65536) (hl : 67 ≤ l.length ∧ l.length ≤ 16777216) (hop : i.op = 13 ∨ i.op = 14) :
  Calls Tryz.prog 116 #[.string (Dp.str l), .agg (Dp.stCells s root).toArray, .agg (Dp.insCells i).toArray] w fun e w' => e = .returned (.tuple #[.int .i64 (Dp.docCell l s root i).1, .int .i64 (Dp.docCell l s root i).2]) ∧ Dp.Keeps (fun _ => False) w w' := by
 have hsz := Dp.str_size l
 go_enter Tryz.func116, Tryz.ntmps116
 go_wp2_with (refine Dp.wpList_box_row rfl 74 _ rfl (Dp.stCells s root) rfl ?_)
 intro w1 r1 z1 k1
 go_wp2_with (refine Dp.wpList_box_row rfl 143 _ rfl (Dp.insCells i) rfl ?_)
 intro w2 r2 z2 k2
 have rs := r1.keep k2 (fun e => e)
 have kk2 := k1.trans k2
 clear r1 k1 k2
 have e0 : ∀ wx, Dp.Keeps (fun _ => False) w2 wx → wx.cell? ⟨w.heap.size + 1, 2, none⟩ = some (.int .i64 i.b) := fun wx kx => ((r2.keep kx (fun e => e)).insC).2.2.1
 have e1 : ∀ wx, Dp.Keeps (fun _ => False) w2 wx → wx.cell? ⟨w.heap.size + 1, 4, none⟩ = some (.int .i64 i.n) := fun wx kx => ((r2.keep kx (fun e => e)).insC).2.2.2.2
 have e2 : ∀ wx, Dp.Keeps (fun _ => False) w2 wx → wx.cell? ⟨w.heap.size, 4 + i.b.toNat, none⟩ = some (.int .i64 (s.reg i.b)) := fun wx kx => (rs.keep kx (fun e => e)).stReg hs.len i.b hi.b
 have hib := hi.b
 have hin := hi.n
 have hrb := hs.reg i.b
 unfold Dp.isWord at hrb
 have hwr : IntKind.i64.wrap (s.reg i.b + i.n) = s.reg i.b + i.n := by rw [IntKind.wrap_i64]; omega
 have hS0 : Dp.Keeps (fun _ => False) w2 w2.drew := (Dp.Keeps.refl _ _).drew
 go_wp2
 refine Dp.wp_region_L (fun wx => Dp.Keeps (fun _ => False) w2 wx) 8 mixedP ?_
 refine' Dp.tj 0 hS0 ?_
 simp only [Act.put, Dp.tks]
 refine' Dp.tj 1 hS0 ?_
 simp only [Act.put, Dp.tks]
 refine' Dp.tj 2 hS0 ?_
 simp only [Act.put, Dp.tks]
 refine' Dp.tj 3 hS0 ?_
 simp only [Act.put, Dp.tks]
 refine' Dp.tj 4 hS0 ?_
 simp only [Act.put, Dp.tks]
 refine' Dp.tj 5 hS0 ?_
 simp only [Act.put, Dp.tks]
 refine' Dp.tj 6 hS0 ?_
 simp only [Act.put, Dp.tks]
 refine' Dp.tj 7 hS0 ?_
 simp only [Act.put, Dp.tks]
 refine Dp.wpAnyL_one 8 rfl (by kernel_rfl) (by rfl) (fun K hK => ?_)
 go_simp
 refine (refWrap _ _).mono ?_
 rintro e wA ⟨rfl, hwA⟩
 subst wA
 refine hK _ _ ⟨fun h => absurd h (Nat.lt_irrefl _), ?_⟩
 clear hK K
 refine Dp.wpAnyL_rest (by kernel_rfl) ?_
 refine Dp.wpAny_tail 9 rfl (by kernel_rfl) ?_
 simp only [List.drop_succ_cons, List.drop_zero]
 clear e0 e1 e2 hwr
 have hw := Dp.wrap_word (s.reg i.b + i.n)
 unfold Dp.isWord at hw
 have HDC : Hid (Dp.docCell l s root i = if Dp.wrap (s.reg i.b + i.n) ≥ 256 then (if l.length ≠ 67 then (0, 6) else (0, 3)) else if Dp.fits l 67 (Dp.wrap (s.reg i.b + i.n)).toNat root = false ∨ l.length ≠ 87 then (0, 6) else if i.op = 14 then (Dp.stamp (Dp.moved s i 0 false) (Dp.rooted (l.drop 67) (s.reg i.a) (Dp.wrap (s.reg i.b + i.n)).toNat 8), 0) else (Dp.stamp (Dp.moved s i (Dp.numTo l 67 4) true) root, 0)) := rfl
 generalize Dp.wrap (s.reg i.b + i.n) = NN at *
 by_cases hn : NN ≥ 256
 ·have hn' : 256 ≤ NN := hn
  by_cases h67 : l.length = 67
  ·have hg : ((l.length : Int) != 67) = false := by simp [h67]
   have HD : Hid (Dp.docCell l s root i = (0, 3)) := by unfold Hid; rw [HDC.out, if_pos hn, if_neg (by simpa using h67)]
   clear HDC
   go_wp2
   go_ret2
   rw [HD.out]
   exact ⟨rfl, kk2.drew⟩
  ·have hg : ((l.length : Int) != 67) = true := by simp; omega
   have HD : Hid (Dp.docCell l s root i = (0, 6)) := by unfold Hid; rw [HDC.out, if_pos hn, if_pos h67]
   clear HDC
   go_wp2
   go_ret2
   rw [HD.out]
   exact ⟨rfl, kk2.drew⟩
 have hn' : ¬ (256 ≤ NN) := hn
 have HDC2 := HDC.out
 rw [if_neg hn] at HDC2
 have HD2 := Hid.mk_ HDC2
 clear HDC HDC2 hn
 obtain ⟨k, rfl⟩ := Int.eq_ofNat_of_zero_le hw.1
 rw [Int.toNat_natCast] at HD2
 have rd := r2.drew
 have sd := rs.drew
 have c12 : w2.drew.cell? ⟨w.heap.size, 12, none⟩ = some (.int .i64 root) := by rw [sd.cell]; exact Dp.stCells_root s root hs.len
 go_wp2_with fail
 refine (refFits l 67 k root _ (by omega) hl.2 (by omega)).mono ?_
 rintro e w3 ⟨rfl, k3⟩
 have r3 := rd.keep k3 (fun e => e)
 have s3 := sd.keep k3 (fun e => e)
 have kk3 : Dp.Keeps (fun _ => False) w w3 := kk2.drew.trans k3
 clear rd sd r2 rs c12 k3 kk2 hS0
 by_cases hfit : Dp.fits l 67 k root = false ∨ l.length ≠ 87
 ·have HD : Hid (Dp.docCell l s root i = (0, 6)) := by unfold Hid; rw [HD2.out, if_pos hfit]
  clear HD2
  cases hf : Dp.fits l 67 k root with
  | false =>
   clear hfit hf
   go_wp2
   go_ret2
   rw [HD.out]
   exact ⟨rfl, kk3⟩
  | true =>
   have h87 : l.length ≠ 87 := hfit.elim (fun h => by rw [hf] at h; cases h) id
   have hg : ((l.length : Int) != 87) = true := by simp; omega
   clear hfit hf
   go_wp2
   go_ret2
   rw [HD.out]
   exact ⟨rfl, kk3⟩
 have hft : Dp.fits l 67 k root = true := by
  cases h : Dp.fits l 67 k root with
  | true => rfl
  | false => exact absurd (.inl h) hfit
 have h87 : l.length = 87 := by
  rcases Nat.decEq l.length 87 with h | h
  ·exact absurd (.inr h) hfit
  ·exact h
 have HD4 := HD2.out
 rw [if_neg hfit] at HD4
 have HD := Hid.mk_ HD4
 have hg : ((l.length : Int) != 87) = false := by simp [h87]
 rw [hft]
 clear HD2 HD4 hfit hft
 have HL := Hid.mk_ h87
 clear h87
 go_upto_region 9 with (fail)
 go_cut [10] (fun t wx => ∃ T, t = .pointer (some ⟨T, 0, none⟩) ∧ w3.heap.size ≤ T ∧ Dp.Row wx T 74 (Dp.stCells (Dp.moved s i (Dp.numTo l 67 4) (i.op == 13)) root) ∧ Dp.Keeps (fun _ => False) w3 wx)
 case first =>
  have HLD0 : Hid (∀ wx, Dp.Keeps (fun _ => False) w3 wx → (Instr.loadAt 74 (.pointer (some ⟨w.heap.size, 0, none⟩))).run Tryz.prog wx = .ok (.agg (Dp.stCells s root).toArray) wx) := fun wx kx => runLoadSt (post := []) (by simpa using s3.keep kx (fun e => e)) hs.len
  have HLD1 : Hid (∀ wx, Dp.Keeps (fun _ => False) w3 wx → (Instr.loadAt 143 (.pointer (some ⟨w.heap.size + 1, 0, none⟩))).run Tryz.prog wx = .ok (.agg (Dp.insCells i).toArray) wx) := fun wx kx => runLoadIns (r3.keep kx (fun e => e))
  have e5 : ∀ wx, Dp.Keeps (fun _ => False) w3 wx → wx.cell? ⟨w.heap.size + 1, 0, none⟩ = some (.int .i64 i.op) := fun wx kx => ((r3.keep kx (fun e => e)).insC).1
  have HN : Hid (∀ wx : World, Calls Tryz.prog 115 #[.string (Dp.str l), .int .i64 67, .int .i64 4] wx fun e w' => e = .returned (.int .i64 (Dp.numTo l 67 4)) ∧ w' = wx) := by
   intro wx
   have h := HL.out
   exact refNumber l 67 4 wx (by omega) (by omega) (by omega)
  have hS0 : Dp.Keeps (fun _ => False) w3 w3.drew := (Dp.Keeps.refl _ _).drew
  generalize Dp.numTo l 67 4 = V at *
  refine Dp.wp_region_L (fun wx => Dp.Keeps (fun _ => False) w3 wx) 9 mixedP ?_
  refine' Dp.tk (v := .agg (Dp.stCells s root).toArray) 0 ?hyp0 hS0 ?restp0
  case hyp0 => intro wx hSx; exact Dp.run_load_op rfl rfl (HLD0.out wx hSx)
  simp only [Act.put, Dp.tks]
  refine' Dp.tk (v := .agg (Dp.insCells i).toArray) 1 ?hyp1 hS0 ?restp1
  case hyp1 => intro wx hSx; exact Dp.run_load_op rfl rfl (HLD1.out wx hSx)
  simp only [Act.put, Dp.tks]
  refine' Dp.tj 2 hS0 ?_
  simp only [Act.put, Dp.tks]
  refine' Dp.wpAnyL_tell 3 rfl (by kernel_rfl) (fun _ _ _ h => h) (by rfl) 115 #[.string (Dp.str l), .int .i64 67, .int .i64 4] ?he3 (fun wx _ => HN.out wx) hS0 ?rest3
  case he3 => intro wx hSx; go_simp; try with_reducible rfl
  simp only [Act.put, Dp.tks]
  refine' Dp.tj 4 hS0 ?_
  simp only [Act.put, Dp.tks]
  refine' Dp.tj 5 hS0 ?_
  simp only [Act.put, Dp.tks]
  refine' Dp.tj 6 hS0 ?_
  simp only [Act.put, Dp.tks]
  refine Dp.wpAnyL_both 7 8 rfl rfl (by kernel_rfl) (by rfl) (by rfl) (fun K hK => ?_) (fun K hK => ?_)
  ·go_simp
   refine (refMovedX s root i V (i.op == 13) _ hs hi).mono ?_
   rintro e w4 ⟨rfl, k4⟩
   have hS4 := hS0.trans k4
   refine hK _ _ ⟨fun _ => hS4, ?_⟩
   clear hK K
   refine Dp.wpAnyL_one 8 rfl (by kernel_rfl) (by rfl) (fun K hK => ?_)
   refine Dp.wp_alloc_row 74 rfl _ zeroState ?_
   intro w5 r5 z5 k5
   have hS5 := hS4.trans k5
   refine hK _ _ ⟨fun _ => hS5, ?_⟩
   clear hK K
   simp only [Act.put, Dp.tks]
   refine Dp.wpAnyL_rest (by kernel_rfl) ?_
   refine Dp.wpAny_tail 9 rfl (by kernel_rfl) ?_
   simp only [List.drop_succ_cons, List.drop_zero]
   have HM : Hid ((Dp.stCells (Dp.moved s i V (i.op == 13)) root).length = 13) := Dp.stCells_length _ _ (by unfold Dp.moved; simp only; split <;> simp [hs.len])
   have HR5 := Hid.mk_ (Dp.row_nil r5)
   clear r5
   refine Dp.wpList_store_in rfl 74 _ _ rfl w4.heap.size 0 rfl (Dp.stCells (Dp.moved s i V (i.op == 13)) root) rfl 74 [] _ [] HR5.out rfl (HM.out.trans rfl) (by rw [sizeState, HM.out]) (Dp.stCells_one _ _) ?_
   intro w6 r6 z6 k6
   have h46 : w3.heap.size ≤ w4.heap.size := hS4.size
   have HF : Hid (Dp.Row w6 w4.heap.size 74 (Dp.stCells (Dp.moved s i V (i.op == 13)) root) ∧ Dp.Keeps (fun _ => False) w3 w6) := ⟨by simpa using r6, hS5.next k6 (fun q hq e => by omega)⟩
   clear r6 k6 k5 k4 hS4 hS5 HR5 z5 z6 e5
   go_wp2
   go_meet
   case rel => exact ⟨w4.heap.size, rfl, h46, HF.out.1, HF.out.2⟩
  ·refine Dp.wp_alloc_row 74 rfl _ zeroState ?_
   intro w4 r4 z4 k4
   have hS4 := hS0.trans k4
   refine hK _ _ ⟨fun _ => hS4, ?_⟩
   clear hK K
   simp only [Act.put, Dp.tks]
   refine Dp.wpAnyL_one 7 rfl (by kernel_rfl) (by rfl) (fun K hK => ?_)
   go_simp
   refine (refMovedX s root i V (i.op == 13) _ hs hi).mono ?_
   rintro e w5 ⟨rfl, k5⟩
   have hS5 := hS4.trans k5
   refine hK _ _ ⟨fun _ => hS5, ?_⟩
   clear hK K
   refine Dp.wpAnyL_rest (by kernel_rfl) ?_
   refine Dp.wpAny_tail 9 rfl (by kernel_rfl) ?_
   simp only [List.drop_succ_cons, List.drop_zero]
   have HM : Hid ((Dp.stCells (Dp.moved s i V (i.op == 13)) root).length = 13) := Dp.stCells_length _ _ (by unfold Dp.moved; simp only; split <;> simp [hs.len])
   have HR5 : Hid (Dp.Row w5 w3.heap.size 74 ([] ++ Dp.stCells ⟨0, 0, 0, false, [0, 0, 0, 0, 0, 0, 0, 0]⟩ 0 ++ [])) := Dp.row_nil (r4.keep k5 (fun e => e))
   clear r4
   refine Dp.wpList_store_in rfl 74 _ _ rfl w3.heap.size 0 rfl (Dp.stCells (Dp.moved s i V (i.op == 13)) root) rfl 74 [] _ [] HR5.out rfl (HM.out.trans rfl) (by rw [sizeState, HM.out]) (Dp.stCells_one _ _) ?_
   intro w6 r6 z6 k6
   have HF : Hid (Dp.Row w6 w3.heap.size 74 (Dp.stCells (Dp.moved s i V (i.op == 13)) root) ∧ Dp.Keeps (fun _ => False) w3 w6) := ⟨by simpa using r6, hS5.next k6 (fun q hq e => by omega)⟩
   clear r6 k6 k5 k4 hS4 hS5 HR5 z6 z4 e5
   go_wp2
   go_meet
   case rel => exact ⟨w3.heap.size, rfl, Nat.le_refl _, HF.out.1, HF.out.2⟩
 case rest =>
  obtain ⟨T, rfl, hT, rT, kT⟩ := hcut
  have r4 := r3.keep kT (fun e => e)
  have s4 := s3.keep kT (fun e => e)
  have kk4 := kk3.trans kT
  have HV := Hid.mk_ (Dp.numTo_bd l 67 4 (Nat.le_refl _))
  have hsl := s3.lt
  have hil := r3.lt
  clear r3 s3 kk3 kT
  rcases hop with h13 | h14
  ·have o13 : (i.op == 13) = true := by simp [h13]
   have o14 : (i.op == 14) = false := by simp [h13]
   rw [o13] at rT
   have HD5 : Hid (Dp.docCell l s root i = (Dp.sum (Dp.label (Dp.moved s i (Dp.numTo l 67 4) true) root), 0)) := by unfold Hid; rw [HD.out, if_neg (by omega), Dp.stamp]
   have HMK := Hid.mk_ (Dp.moved_ok hs i (Dp.numTo l 67 4) true HV.out)
   have c0 := (r4.insC).1
   clear HD h13 r4 s4
   generalize Dp.moved s i (Dp.numTo l 67 4) true = M at *
   have HLT : Hid ((Dp.stCells M root).length = 13) := Dp.stCells_length _ _ HMK.out.len
   have HLL : Hid ((Dp.label M root).length = 47) := Dp.label_length _ _ HMK.out.len
   have HRT := Hid.mk_ (Dp.row_nil rT)
   clear rT
   go_wp2_with (refine Dp.wpList_load_in rfl 74 _ rfl T 0 rfl 74 [] _ [] HRT.out rfl _ Tryz.underlying74 rfl (by rw [sizeState, HLT.out]) ?_)
   intro _
   go_wp2_with fail
   with_reducible refine (refLabelX M root _ HMK.out hr).mono ?_
   rintro e w5 ⟨rfl, k5⟩
   go_wp2_with fail
   with_reducible refine (refSum _ _ (by rw [Dp.str_size, HLL.out]; simp [maxLen])).mono ?_
   rintro e w6 ⟨rfl, hww⟩
   subst w6
   rw [Dp.str_data]
   generalize Dp.sum (Dp.label M root) = X at *
   go_wp2
   go_ret2
   rw [HD5.out]
   exact ⟨rfl, kk4.trans k5⟩
  ·have o13 : (i.op == 13) = false := by simp [h14]
   have o14 : (i.op == 14) = true := by simp [h14]
   rw [o13, Dp.moved_word] at rT
   have HD5 : Hid (Dp.docCell l s root i = (Dp.sum (Dp.label (Dp.moved s i 0 false) (Dp.rooted (l.drop 67) (s.reg i.a) k 8)), 0)) := by unfold Hid; rw [HD.out, if_pos h14, Dp.stamp]
   have HMK := Hid.mk_ (Dp.moved_ok hs i 0 false (by simp [Dp.isWord]))
   have c0 := (r4.insC).1
   have HRO : Hid (∀ wx : World, Calls Tryz.prog 127 #[.string (Dp.str (l.drop 67)), .int .i64 (s.reg i.a), .int .i64 k] wx fun e w' => e = .returned (.int .i64 (Dp.rooted (l.drop 67) (s.reg i.a) k 8)) ∧ Dp.Keeps (fun _ => False) wx w') := by
    intro wx
    have h := HL.out
    exact refRooted (l.drop 67) (s.reg i.a) k wx (by rw [List.length_drop]; omega) (hs.reg i.a) (by omega)
   have HRB := Hid.mk_ (Dp.rooted_bd (l.drop 67) (s.reg i.a) k 8)
   have e0 : ∀ wx, Dp.Keeps (fun _ => False) wc wx → wx.cell? ⟨w.heap.size + 1, 1, none⟩ = some (.int .i64 i.a) := fun wx kx => ((r4.keep kx (fun e => e)).insC).2.1
   have e2 : ∀ wx, Dp.Keeps (fun _ => False) wc wx → wx.cell? ⟨w.heap.size, 4 + i.a.toNat, none⟩ = some (.int .i64 (s.reg i.a)) := fun wx kx => (s4.keep kx (fun e => e)).stReg hs.len i.a hi.a
   have hia := hi.a
   have hra := hs.reg i.a
   unfold Dp.isWord at hra
   have HSD := Hid.mk_ (Dp.str_drop l 67)
   rw [hsz] at HSD
   have hS0 : Dp.Keeps (fun _ => False) wc wc.drew := (Dp.Keeps.refl _ _).drew
   generalize Dp.rooted (l.drop 67) (s.reg i.a) k 8 = RO at *
   generalize Dp.moved s i 0 false = M at *
   have HLT : Hid ((Dp.stCells M RO).length = 13) := Dp.stCells_length _ _ HMK.out.len
   have HLL : Hid ((Dp.label M RO).length = 47) := Dp.label_length _ _ HMK.out.len
   have HRT := Hid.mk_ rT
   have hgl : (67 : Int) ≤ (l.length : Int) := by omega
   clear HD h14 r4 s4 rT hg
   go_wp2
   refine Dp.wp_region_L (fun wx => Dp.Keeps (fun _ => False) wc wx) 8 mixedP ?_
   refine' Dp.tj 0 hS0 ?_
   simp only [Act.put, Dp.tks]
   refine' Dp.tk (v := .string (Dp.str (l.drop 67))) 1 ?hyq1 hS0 ?restq1
   case hyq1 => intro wx hSx; rw [← HSD.out]; go_simp
   simp only [Act.put, Dp.tks]
   refine' Dp.tj 2 hS0 ?_
   simp only [Act.put, Dp.tks]
   refine' Dp.tj 3 hS0 ?_
   simp only [Act.put, Dp.tks]
   refine' Dp.tj 4 hS0 ?_
   simp only [Act.put, Dp.tks]
   refine' Dp.tj 5 hS0 ?_
   simp only [Act.put, Dp.tks]
   refine' Dp.tj 6 hS0 ?_
   simp only [Act.put, Dp.tks]
   refine' Dp.tj 7 hS0 ?_
   simp only [Act.put, Dp.tks]
   refine Dp.wpAnyL_one 8 rfl (by kernel_rfl) (by rfl) (fun K hK => ?_)
   go_simp
   with_reducible refine (HRO.out _).mono ?_
   rintro e w5 ⟨rfl, k5⟩
   have hS5 := hS0.trans k5
   refine hK _ _ ⟨fun h => absurd h (Nat.lt_irrefl _), ?_⟩
   clear hK K
   refine Dp.wpAnyL_rest (by kernel_rfl) ?_
   refine Dp.wpAny_tail 9 rfl (by kernel_rfl) ?_
   simp only [List.drop_succ_cons, List.drop_zero]
   have rT5 := HRT.out.keep hS5 (fun e => e)
   have c12 : w5.cell? ⟨T, 12, none⟩ = some (.int .i64 root) := by rw [rT5.cell]; exact Dp.stCells_root M root HMK.out.len
   have f12 := rT5.frozen 12
   have HR6 : Hid (Dp.Row (w5.setCell ⟨T, 12, none⟩ (.int .i64 RO)) T 74 ([] ++ Dp.stCells M RO ++ [])) := by
    have h := rT5.set 12 (.int .i64 RO)
    rw [Dp.set_root M root RO HMK.out.len] at h
    exact Dp.row_nil h
   have HK6 : Hid (Dp.Keeps (fun _ => False) w (w5.setCell ⟨T, 12, none⟩ (.int .i64 RO))) := (kk4.trans hS5).setCell (p := ⟨T, 12, none⟩) (.inl (by show w.heap.size ≤ T; omega)) _
   clear rT5 e0 e2 hS0 hS5 k5 HRT HRO kk4
   go_wp2_with (refine Dp.wpList_load_in rfl 74 _ rfl T 0 rfl 74 [] _ [] HR6.out rfl _ Tryz.underlying74 rfl (by rw [sizeState, HLT.out]) ?_)
   intro _
   go_wp2_with fail
   with_reducible refine (refLabelX M RO _ HMK.out (by have := HRB.out; omega)).mono ?_
   rintro e w7 ⟨rfl, k7⟩
   go_wp2_with fail
   with_reducible refine (refSum _ _ (by rw [Dp.str_size, HLL.out]; simp [maxLen])).mono ?_
   rintro e w8 ⟨rfl, hww⟩
   subst w8
   rw [Dp.str_data]
   generalize Dp.sum (Dp.label M RO) = X at *
   go_wp2
   go_ret2
   rw [HD5.out]
   exact ⟨rfl, HK6.out.trans k7⟩
end Go.Proofs.YtdipojfngdceoaaGreatDoor
