/- Steps on the way: RefCheck, RefTwin. -/
import Derived.Test.YtdipojfngdceoaaGreatDoorShQ03
import Derived.Test.YtdipojfngdceoaaGreatDoorShQ07
import Derived.Test.YtdipojfngdceoaaGreatDoorShQ09
import Derived.Test.YtdipojfngdceoaaGreatDoorShQ18
import Derived.Test.YtdipojfngdceoaaGreatDoorShQ31
import Derived.BigQuiet
import Derived.Deep.QuietTactic
namespace Go.Proofs.YtdipojfngdceoaaGreatDoor
open Go.RowKit
theorem refUnlabelX (l : List UInt8) (w : World) (hl : 47 ≤ l.length) :
  Calls Tryz.prog 113 #[.string (Dp.str (l.take 47))] w fun e w' => e = .returned (.tuple #[.agg (Dp.stCells (Dp.unlab l) (Dp.unroot l)).toArray, .bool (decide (((l.getD 12 0).toNat : Int) < 2))]) ∧ Dp.Keeps (fun _ => False) w w' := by
 have h := refUnlabel (l.take 47) w (by rw [List.length_take]; omega)
 rw [Dp.unlab_take, Dp.unroot_take, Dp.getD_take l 47 12 (by omega)] at h
 exact h
namespace Dp
theorem doc_short (S : Int) (l : List UInt8) (h : l.length < 47) : docCheck S l = (0, 6) := by unfold docCheck; rw [if_pos (.inl h)]
theorem doc_other (S : Int) (l : List UInt8) (h : sum (l.take 47) ≠ S) : docCheck S l = (0, 6) := by unfold docCheck; rw [if_pos (.inr h)]
theorem doc_byte (S : Int) (l : List UInt8) (h : ¬ (l.getD 12 0).toNat ≤ 1) : docCheck S l = (0, 6) := by
 unfold docCheck
 rw [if_pos h]
 split <;> rfl
def docBehind (S : Int) (l : List UInt8) : Int × Int :=
 if (unlab l).over = true ∨ (unlab l).pc ≥ 256 then
  (if l.length ≠ 47 then (0, 6) else if (unlab l).over = true then (S, 0) else (0, 3))
 else if fits l 47 (unlab l).pc.toNat (unroot l) = false then (0, 6)
 else if (decode (numTo l 47 4)).op = 13 ∨ (decode (numTo l 47 4)).op = 14 then docCell l (unlab l) (unroot l) (decode (numTo l 47 4))
 else if (decode (numTo l 47 4)).op = 19 then
  (if l.length < 68 ∨ (l.getD 67 0).toNat > 200 ∨ l.length ≠ 68 + (l.getD 67 0).toNat ∨ sum (l.drop 68) ≠ (unlab l).reg (decode (numTo l 47 4)).b then (0, 6)
   else (Dp.stamp (moved (unlab l) (decode (numTo l 47 4)) (told (l.drop 68) ((unlab l).reg (decode (numTo l 47 4)).c)) true) (unroot l), 0))
 else if l.length ≠ 67 then (0, 6)
 else if (plain (unlab l) (decode (numTo l 47 4))).2 ≠ 0 then (0, (plain (unlab l) (decode (numTo l 47 4))).2)
 else (Dp.stamp (plain (unlab l) (decode (numTo l 47 4))).1 (unroot l), 0)
theorem doc_behind (S : Int) (l : List UInt8) (h1 : ¬ l.length < 47) (h2 : sum (l.take 47) = S) (h3 : (l.getD 12 0).toNat ≤ 1) : docCheck S l = docBehind S l := by
 unfold docCheck docBehind
 rw [if_neg (by intro h; rcases h with h | h; exact h1 h; exact h h2), if_neg (fun h => h h3)]
end Dp
set_option maxRecDepth 100000 in
set_option maxHeartbeats 2000000 in
theorem refCheckDoc (S : Int) (l : List UInt8) (w : World) (hl : l.length ≤ 16777216) :
  Calls Tryz.prog 95 #[.int .i64 S, .string (Dp.str l)] w fun e w' => e = .returned (.tuple #[.int .i64 (Dp.docCheck S l).1, .int .i64 (Dp.docCheck S l).2]) ∧ Dp.Keeps (fun _ => False) w w' := by
 have hsz := Dp.str_size l
 by_cases h47 : l.length < 47
 ·have hg : decide ((l.length : Int) < 47) = true := decide_eq_true (by omega)
  have HD := Hid.mk_ (Dp.doc_short S l h47)
  go_enter Tryz.func95, Tryz.ntmps95
  go_wp2
  go_ret2
  rw [HD.out]
  exact ⟨rfl, Dp.Keeps.refl _ _⟩
 have hg : decide ((l.length : Int) < 47) = false := decide_eq_false (by omega)
 have HT := Hid.mk_ (Dp.str_take l 47)
 have HTL : Hid ((l.take 47).length = 47) := by unfold Hid; rw [List.length_take]; omega
 have hi47 : (47 : Int) ≤ (l.length : Int) := by omega
 go_enter Tryz.func95, Tryz.ntmps95
 go_wp2_with fail
 rw [HT.out]
 refine (refSum _ _ (by rw [Dp.str_size, HTL.out]; simp [maxLen])).mono ?_
 rintro e w1 ⟨rfl, hww⟩
 subst w1
 rw [Dp.str_data]
 by_cases hs : Dp.sum (l.take 47) = S
 case neg =>
  have HD := Hid.mk_ (Dp.doc_other S l hs)
  have hne : (Dp.sum (l.take 47) != S) = true := by simpa using hs
  go_wp2
  go_ret2
  rw [HD.out]
  exact ⟨rfl, Dp.Keeps.refl _ _⟩
 have hne : (Dp.sum (l.take 47) != S) = false := by simpa using hs
 have HS := Hid.mk_ hs
 clear hs
 go_wp2_with fail
 rw [HT.out]
 refine (refUnlabelX l _ (by omega)).mono ?_
 rintro e w1 ⟨rfl, k1⟩
 have HBY : Hid (¬ (l.getD 12 0).toNat ≤ 1 → Dp.docCheck S l = (0, 6)) := fun h => Dp.doc_byte S l h
 have HBH : Hid ((l.getD 12 0).toNat ≤ 1 → Dp.docCheck S l = Dp.docBehind S l) := fun h => Dp.doc_behind S l h47 HS.out h
 generalize l.getD 12 0 = B at *
 have hB8 : B.toNat < 256 := B.toNat_lt
 have HOK := Hid.mk_ (Dp.unlab_ok l)
 have HRB : Hid (0 ≤ Dp.unroot l ∧ Dp.unroot l < 65536) := Dp.numTo_two l 45
 have HM : Hid ((Dp.stCells (Dp.unlab l) (Dp.unroot l)).length = 13) := Dp.stCells_length _ _ (Dp.unlab_ok l).len
 have z1 := k1.size
 go_wp2_with (refine Dp.wpList_alloc_row rfl 74 rfl _ zeroState ?_)
 intro w2 r2 z2 k2
 have HR2 := Hid.mk_ (Dp.row_nil r2)
 clear r2
 go_wp2_with (refine Dp.wpList_store_in rfl 74 _ _ rfl w1.heap.size 0 rfl (Dp.stCells (Dp.unlab l) (Dp.unroot l)) rfl 74 [] _ [] HR2.out rfl (HM.out.trans rfl) (by rw [sizeState, HM.out]) (Dp.stCells_one _ _) ?_)
 intro w3 r3 z3 k3
 have rs : Dp.Row w3 w1.heap.size 74 (Dp.stCells (Dp.unlab l) (Dp.unroot l)) := by simpa using r3
 have kk3 : Dp.Keeps (fun _ => False) w w3 := (k1.trans k2).next k3 (fun i hi e => by omega)
 have zz3 : w3.heap.size = w1.heap.size + 1 := by omega
 clear r3 k1 k2 k3 HR2 hne hg z2 z3
 generalize hG : w1.heap.size = G at *
 by_cases hb : B.toNat ≤ 1
 case neg =>
  have HD := Hid.mk_ (HBY.out hb)
  have hg : decide ((B.toNat : Int) < 2) = false := decide_eq_false (by omega)
  go_wp2
  go_ret2
  rw [HD.out]
  exact ⟨rfl, kk3⟩
 have hg2 : decide ((B.toNat : Int) < 2) = true := decide_eq_true (by omega)
 have HDB := Hid.mk_ (HBH.out hb)
 clear hb
 obtain ⟨c0, _, _, c3⟩ := rs.st
 have hpc := HOK.out.pc
 unfold Dp.isWord at hpc
 by_cases hend : (Dp.unlab l).over = true ∨ (Dp.unlab l).pc ≥ 256
 ·have HD1 : Hid (Dp.docCheck S l = if l.length ≠ 47 then (0, 6) else if (Dp.unlab l).over = true then (S, 0) else (0, 3)) := by
   unfold Hid; rw [HDB.out]; unfold Dp.docBehind; rw [if_pos hend]
  clear HDB
  cases hov : (Dp.unlab l).over with
  | true =>
   rw [hov] at c3
   by_cases h : l.length = 47
   ·have hg : ((l.length : Int) != 47) = false := by simp [h]
    have HD : Hid (Dp.docCheck S l = (S, 0)) := by unfold Hid; rw [HD1.out, if_neg (by simpa using h), if_pos hov]
    clear hend hov
    go_wp2
    go_ret2
    rw [HD.out]
    exact ⟨rfl, kk3⟩
   ·have hg : ((l.length : Int) != 47) = true := by simp; omega
    have HD : Hid (Dp.docCheck S l = (0, 6)) := by unfold Hid; rw [HD1.out, if_pos h]
    clear hend hov
    go_wp2
    go_ret2
    rw [HD.out]
    exact ⟨rfl, kk3⟩
  | false =>
   rw [hov] at c3
   have hpcg : 256 ≤ (Dp.unlab l).pc := hend.elim (fun h => by rw [hov] at h; cases h) id
   by_cases h : l.length = 47
   ·have hg : ((l.length : Int) != 47) = false := by simp [h]
    have HD : Hid (Dp.docCheck S l = (0, 3)) := by unfold Hid; rw [HD1.out, if_neg (by simpa using h), if_neg (by rw [hov]; simp)]
    clear hend hov
    go_wp2
    go_ret2
    rw [HD.out]
    exact ⟨rfl, kk3⟩
   ·have hg : ((l.length : Int) != 47) = true := by simp; omega
    have HD : Hid (Dp.docCheck S l = (0, 6)) := by unfold Hid; rw [HD1.out, if_pos h]
    clear hend hov
    go_wp2
    go_ret2
    rw [HD.out]
    exact ⟨rfl, kk3⟩
 have hov : (Dp.unlab l).over = false := by
  cases h : (Dp.unlab l).over with
  | false => rfl
  | true => exact absurd (.inl h) hend
 rw [hov] at c3
 have hpcn : decide ((256 : Int) ≤ (Dp.unlab l).pc) = false := decide_eq_false (fun h => hend (.inr h))
 have hpcl : (Dp.unlab l).pc < 256 := by
  rcases Int.lt_or_le (Dp.unlab l).pc 256 with h | h
  ·exact h
  ·exact absurd (.inr h) hend
 have HE := Hid.mk_ hend
 have c12 : w3.cell? ⟨G, 12, none⟩ = some (.int .i64 (Dp.unroot l)) := by rw [rs.cell]; exact Dp.stCells_root _ _ HOK.out.len
 obtain ⟨kp, hkp⟩ := Int.eq_ofNat_of_zero_le hpc.1
 have HKP : Hid ((Dp.unlab l).pc.toNat = kp) := by unfold Hid; rw [hkp]; rfl
 rw [hkp] at c0 hpcl hpcn
 clear hend hov
 go_wp2_with fail
 refine (refFits l 47 kp (Dp.unroot l) _ (by omega) hl (by omega)).mono ?_
 rintro e w4 ⟨rfl, k4⟩
 have rs4 := rs.keep k4 (fun e => e)
 have kk4 := kk3.trans k4
 have z4 := k4.size
 clear rs kk3 k4 c0 c3 c12
 cases hf : Dp.fits l 47 kp (Dp.unroot l) with
 | false =>
  have HD : Hid (Dp.docCheck S l = (0, 6)) := by
   unfold Hid; rw [HDB.out]; unfold Dp.docBehind; rw [if_neg HE.out, HKP.out, if_pos hf]
  clear hf
  go_wp2
  go_ret2
  rw [HD.out]
  exact ⟨rfl, kk4⟩
 | true =>
  have h67 : 67 ≤ l.length := by
   unfold Dp.fits at hf
   simp only [Bool.and_eq_true, decide_eq_true_eq] at hf
   omega
  have HN : Hid (∀ wx : World, Calls Tryz.prog 115 #[.string (Dp.str l), .int .i64 47, .int .i64 4] wx fun e w' => e = .returned (.int .i64 (Dp.numTo l 47 4)) ∧ w' = wx) := by
   intro wx
   exact refNumber l 47 4 wx (by omega) (by omega) (by omega)
  have HW := Hid.mk_ (Dp.numTo_bd l 47 4 (Nat.le_refl _))
  have HIO := Hid.mk_ (Dp.decode_ok _ (Dp.numTo_bd l 47 4 (Nat.le_refl _)))
  have HD1 : Hid (Dp.docCheck S l = if (Dp.decode (Dp.numTo l 47 4)).op = 13 ∨ (Dp.decode (Dp.numTo l 47 4)).op = 14 then Dp.docCell l (Dp.unlab l) (Dp.unroot l) (Dp.decode (Dp.numTo l 47 4))
    else if (Dp.decode (Dp.numTo l 47 4)).op = 19 then (if l.length < 68 ∨ (l.getD 67 0).toNat > 200 ∨ l.length ≠ 68 + (l.getD 67 0).toNat ∨ Dp.sum (l.drop 68) ≠ (Dp.unlab l).reg (Dp.decode (Dp.numTo l 47 4)).b then (0, 6)
     else (Dp.stamp (Dp.moved (Dp.unlab l) (Dp.decode (Dp.numTo l 47 4)) (Dp.told (l.drop 68) ((Dp.unlab l).reg (Dp.decode (Dp.numTo l 47 4)).c)) true) (Dp.unroot l), 0))
    else if l.length ≠ 67 then (0, 6)
    else if (Dp.plain (Dp.unlab l) (Dp.decode (Dp.numTo l 47 4))).2 ≠ 0 then (0, (Dp.plain (Dp.unlab l) (Dp.decode (Dp.numTo l 47 4))).2)
    else (Dp.stamp (Dp.plain (Dp.unlab l) (Dp.decode (Dp.numTo l 47 4))).1 (Dp.unroot l), 0)) := by
   unfold Hid; rw [HDB.out]; unfold Dp.docBehind; rw [if_neg HE.out, HKP.out, hf, if_neg (by simp)]
  have HDX : Hid (∀ wx : World, Calls Tryz.prog 84 #[.int .i64 (Dp.numTo l 47 4)] wx fun e w' => e = .returned (.agg #[.int .i64 (Dp.decode (Dp.numTo l 47 4)).op, .int .i64 (Dp.decode (Dp.numTo l 47 4)).a, .int .i64 (Dp.decode (Dp.numTo l 47 4)).b, .int .i64 (Dp.decode (Dp.numTo l 47 4)).c, .int .i64 (Dp.decode (Dp.numTo l 47 4)).n]) ∧ Dp.Keeps (fun _ => False) wx w') := fun wx => refDecodeX _ _ wx HW.out rfl
  clear HDB HBH HBY hf HKP hkp hpcn hpcl hpc HE hg2
  go_wp2_with fail
  with_reducible refine (HN.out _).mono ?_
  rintro e w5 ⟨rfl, hww⟩
  subst w5
  go_wp2_with fail
  with_reducible refine (HDX.out _).mono ?_
  rintro e w5 ⟨rfl, k5⟩
  generalize Dp.decode (Dp.numTo l 47 4) = i at *
  generalize hU : Dp.unlab l = U at *
  generalize hR : Dp.unroot l = RT at *
  have rs5 := rs4.keep k5 (fun e => e)
  have kk5 := kk4.trans k5
  have z5 := k5.size
  clear rs4 kk4 k5 HDX HN
  generalize hI : w5.heap.size = J at *
  go_wp2_with (refine Dp.wpList_alloc_row rfl 143 rfl _ zeroIns ?_)
  intro w6 r6 z6 k6
  have HR6 : Hid (Dp.Row w6 J 143 ([] ++ Dp.insCells ⟨0, 0, 0, 0, 0⟩ ++ [])) := by unfold Hid; rw [List.append_nil, List.nil_append]; first | exact r6 | (rw [← hI]; exact r6)
  go_wp2_with (refine Dp.wpList_store_in rfl 143 _ _ rfl J 0 rfl (Dp.insCells i) rfl 143 [] _ [] HR6.out rfl rfl (by rw [sizeIns]; rfl) (by intro v hv; simp [Dp.insCells] at hv; rcases hv with rfl | rfl | rfl | rfl | rfl <;> rfl) ?_)
  intro w7 r7 z7 k7
  have ri : Dp.Row w7 J 143 (Dp.insCells i) := by simpa using r7
  have rs7 := (rs5.keep k6 (fun e => e)).keep k7 (show ¬ G = J by omega)
  have kk7 : Dp.Keeps (fun _ => False) w w7 := (kk5.trans k6).next k7 (fun q hq e => by omega)
  obtain ⟨i0, i1, i2, i3, i4⟩ := ri.insC
  clear r6 z6 k6 HR6 r7 k7 rs5 kk5
  have HRS := Hid.mk_ (Dp.row_nil rs7)
  have HRI := Hid.mk_ (Dp.row_nil ri)
  by_cases h1314 : i.op = 13 ∨ i.op = 14
  ·have HD2 : Hid (Dp.docCheck S l = Dp.docCell l U RT i) := by unfold Hid; rw [HD1.out, if_pos h1314]
   have HCC : Hid (∀ wx : World, Calls Tryz.prog 116 #[.string (Dp.str l), .agg (Dp.stCells U RT).toArray, .agg (Dp.insCells i).toArray] wx fun e w' => e = .returned (.tuple #[.int .i64 (Dp.docCell l U RT i).1, .int .i64 (Dp.docCell l U RT i).2]) ∧ Dp.Keeps (fun _ => False) wx w') := fun wx => refCheckCell l U RT i wx HOK.out HIO.out HRB.out ⟨h67, hl⟩ h1314
   clear HD1
   generalize Dp.docCell l U RT i = DC at *
   rcases h1314 with h13 | h14
   ·have o13 : (i.op == 13) = true := by simp [h13]
    clear h13 rs7 ri
    go_wp2_with (first | (refine Dp.wpList_load_in rfl 74 _ rfl G 0 rfl 74 [] _ [] HRS.out rfl _ Tryz.underlying74 rfl (by rw [sizeState, HM.out]) ?_; intro _) | (refine Dp.wpList_load_in rfl 143 _ rfl J 0 rfl 143 [] _ [] HRI.out rfl _ Tryz.underlying143 rfl (by rw [sizeIns]; rfl) ?_; intro _))
    with_reducible refine (HCC.out _).mono ?_
    rintro e w8 ⟨rfl, k8⟩
    go_wp2
    go_ret2
    rw [HD2.out]
    exact ⟨rfl, kk7.trans k8⟩
   ·have o13 : (i.op == 13) = false := by simp [h14]
    have o14 : (i.op == 14) = true := by simp [h14]
    clear h14 rs7 ri
    go_wp2_with (first | (refine Dp.wpList_load_in rfl 74 _ rfl G 0 rfl 74 [] _ [] HRS.out rfl _ Tryz.underlying74 rfl (by rw [sizeState, HM.out]) ?_; intro _) | (refine Dp.wpList_load_in rfl 143 _ rfl J 0 rfl 143 [] _ [] HRI.out rfl _ Tryz.underlying143 rfl (by rw [sizeIns]; rfl) ?_; intro _))
    with_reducible refine (HCC.out _).mono ?_
    rintro e w8 ⟨rfl, k8⟩
    go_wp2
    go_ret2
    rw [HD2.out]
    exact ⟨rfl, kk7.trans k8⟩
  have o13 : (i.op == 13) = false := by simp; omega
  have o14 : (i.op == 14) = false := by simp; omega
  by_cases h19 : i.op = 19
  ·have o19 : (i.op == 19) = true := by simp [h19]
   have HD2 : Hid (Dp.docCheck S l = if l.length < 68 ∨ (l.getD 67 0).toNat > 200 ∨ l.length ≠ 68 + (l.getD 67 0).toNat ∨ Dp.sum (l.drop 68) ≠ U.reg i.b then (0, 6) else (Dp.sum (Dp.label (Dp.moved U i (Dp.told (l.drop 68) (U.reg i.c)) true) RT), 0)) := by
    unfold Hid; rw [HD1.out, if_neg h1314, if_pos h19]; rfl
   clear HD1 h19 h1314
   by_cases h68 : l.length < 68
   ·have hg68 : decide ((l.length : Int) < 68) = true := decide_eq_true (by omega)
    have HD3 : Hid (Dp.docCheck S l = (0, 6)) := by unfold Hid; rw [HD2.out, if_pos (.inl h68)]
    clear HD2 h68
    go_wp2
    go_quiet (fail)
    go_wp2
    go_ret2
    rw [HD3.out]
    exact ⟨rfl, kk7.drewN _⟩
   have hg68 : decide ((l.length : Int) < 68) = false := decide_eq_false (by omega)
   have hi67 : (67 : Int) < (l.length : Int) := by omega
   have hGB : (Dp.str l)[67]'(by omega) = l.getD 67 0 := Dp.str_get l 67 (by omega)
   generalize hB67 : l.getD 67 0 = B7 at *
   have hB7 : B7.toNat < 256 := B7.toNat_lt
   by_cases h200 : B7.toNat > 200
   ·have hg200 : decide ((200 : Int) < (B7.toNat : Int)) = true := decide_eq_true (by omega)
    have HD3 : Hid (Dp.docCheck S l = (0, 6)) := by unfold Hid; rw [HD2.out, if_pos (.inr (.inl h200))]
    clear HD2 h200 hB67
    go_wp2
    go_quiet (fail)
    go_wp2
    go_ret2
    rw [HD3.out]
    exact ⟨rfl, kk7.drewN _⟩
   have hg200 : decide ((200 : Int) < (B7.toNat : Int)) = false := decide_eq_false (by omega)
   by_cases hlen : l.length = 68 + B7.toNat
   case neg =>
    have hgl : ((l.length : Int) != 68 + (B7.toNat : Int)) = true := by simp; omega
    have HD3 : Hid (Dp.docCheck S l = (0, 6)) := by unfold Hid; rw [HD2.out, if_pos (.inr (.inr (.inl hlen)))]
    clear HD2 h200 hB67 hlen
    go_wp2
    go_quiet (fail)
    go_wp2
    go_ret2
    rw [HD3.out]
    exact ⟨rfl, kk7.drewN _⟩
   have hgl : ((l.length : Int) != 68 + (B7.toNat : Int)) = false := by simp; omega
   have HLN := Hid.mk_ hlen
   have hsl : (68 : Int) ≤ (l.length : Int) := by omega
   have HSUM : Hid (∀ wx : World, Calls Tryz.prog 81 #[.string ((Dp.str l).extract 68 l.length)] wx fun e w' => e = .returned (.int .i64 (Dp.sum (l.drop 68))) ∧ w' = wx) := by
    intro wx
    have h := refSum (Dp.str (l.drop 68)) wx (by rw [Dp.str_size, List.length_drop]; simp [maxLen]; omega)
    rw [Dp.str_data, ← Dp.str_drop, hsz] at h
    exact h
   have cb := rs7.stReg HOK.out.len i.b HIO.out.b
   have hib := HIO.out.b
   by_cases hsum : Dp.sum (l.drop 68) = U.reg i.b
   case neg =>
    have hgs : (Dp.sum (l.drop 68) != U.reg i.b) = true := by simpa using hsum
    have HD3 : Hid (Dp.docCheck S l = (0, 6)) := by unfold Hid; rw [HD2.out, if_pos (.inr (.inr (.inr hsum)))]
    clear HD2 h200 hB67 hsum hlen
    generalize Dp.sum (l.drop 68) = SX at *
    generalize U.reg i.b = RB at *
    go_wp2
    go_quiet ((go_at_call 81; exact Calls.quiet_of_same (HSUM.out _)))
    go_wp2
    go_ret2
    rw [HD3.out]
    exact ⟨rfl, kk7.drewN _⟩
   have hgs : (Dp.sum (l.drop 68) != U.reg i.b) = false := by simpa using hsum
   have HD3 : Hid (Dp.docCheck S l = (Dp.sum (Dp.label (Dp.moved U i (Dp.told (l.drop 68) (U.reg i.c)) true) RT), 0)) := by
    unfold Hid; rw [HD2.out, if_neg]
    rintro (h | h | h | h)
    ·exact h68 h
    ·exact h200 h
    ·exact h hlen
    ·exact h hsum
   clear HD2 h200 hB67 hsum hlen
   generalize Dp.sum (l.drop 68) = SX at *
   generalize U.reg i.b = RB at *
   go_wp2
   go_quiet ((go_at_call 81; exact Calls.quiet_of_same (HSUM.out _)))
   clear hgs hgl hg200 hg68 hGB HSUM cb i0 i1 i2 i3 i4
   have HTO : Hid (∀ wx : World, Calls Tryz.prog 88 #[.string (Dp.str (l.drop 68)), .int .i64 (U.reg i.c)] wx fun e w' => e = .returned (.int .i64 (Dp.told (l.drop 68) (U.reg i.c))) ∧ w' = wx) := fun wx => refToldI (l.drop 68) (U.reg i.c) wx (HOK.out.reg i.c) (by rw [List.length_drop]; omega)
   have HTB := Hid.mk_ (Dp.told_bd (l.drop 68) (U.reg i.c))
   have HMV := Hid.mk_ (Dp.moved_ok HOK.out i _ true HTB.out)
   have HMX : Hid (∀ wx : World, Calls Tryz.prog 86 #[.agg (Dp.stCells U RT).toArray, .agg (Dp.insCells i).toArray, .int .i64 (Dp.told (l.drop 68) (U.reg i.c)), .bool true] wx fun e w' => e = .returned (.agg (Dp.stCells (Dp.moved U i (Dp.told (l.drop 68) (U.reg i.c)) true) RT).toArray) ∧ Dp.Keeps (fun _ => False) wx w') := fun wx => refMovedX U RT i _ true wx HOK.out HIO.out
   generalize Dp.moved U i (Dp.told (l.drop 68) (U.reg i.c)) true = MV at *
   generalize Dp.told (l.drop 68) (U.reg i.c) = TV at *
   have HLL : Hid ((Dp.label MV RT).length = 47) := Dp.label_length _ _ HMV.out.len
   have hcc := HOK.out.reg i.c
   unfold Dp.isWord at hcc
   have hic := HIO.out.c
   have HSD := Hid.mk_ (Dp.str_drop l 68)
   rw [hsz] at HSD
   go_wp2
   generalize hWQ : w7.drewN _ = wq at *
   have rsq : Dp.Row wq G 74 (Dp.stCells U RT) := by rw [← hWQ]; exact rs7.drewN _
   have riq : Dp.Row wq J 143 (Dp.insCells i) := by rw [← hWQ]; exact ri.drewN _
   have kkq : Dp.Keeps (fun _ => False) w wq := by rw [← hWQ]; exact kk7.drewN _
   have HLD0 : Hid (∀ wx, Dp.Keeps (fun _ => False) wq wx → (Instr.loadAt 74 (.pointer (some ⟨G, 0, none⟩))).run Tryz.prog wx = .ok (.agg (Dp.stCells U RT).toArray) wx) := fun wx kx => runLoadSt (post := []) (by simpa using rsq.keep kx (fun e => e)) HOK.out.len
   have HLD1 : Hid (∀ wx, Dp.Keeps (fun _ => False) wq wx → (Instr.loadAt 143 (.pointer (some ⟨J, 0, none⟩))).run Tryz.prog wx = .ok (.agg (Dp.insCells i).toArray) wx) := fun wx kx => runLoadIns (riq.keep kx (fun e => e))
   have e3 : ∀ wx, Dp.Keeps (fun _ => False) wq wx → wx.cell? ⟨J, 3, none⟩ = some (.int .i64 i.c) := fun wx kx => ((riq.keep kx (fun e => e)).insC).2.2.2.1
   have e4 : ∀ wx, Dp.Keeps (fun _ => False) wq wx → wx.cell? ⟨G, 4 + i.c.toNat, none⟩ = some (.int .i64 (U.reg i.c)) := fun wx kx => (rsq.keep kx (fun e => e)).stReg HOK.out.len i.c HIO.out.c
   have hS0 : Dp.Keeps (fun _ => False) wq wq.drew := (Dp.Keeps.refl _ _).drew
   clear hWQ rs7 ri kk7 rsq riq HRS HRI
   refine Dp.wp_region_L (fun wx => Dp.Keeps (fun _ => False) wq wx) 10 mixedP ?_
   refine' Dp.tk (v := .agg (Dp.stCells U RT).toArray) 0 ?hyp0 hS0 ?restp0
   case hyp0 => intro wx hSx; exact Dp.run_load_op rfl rfl (HLD0.out wx hSx)
   simp only [Act.put, Dp.tks]
   refine' Dp.tk (v := .agg (Dp.insCells i).toArray) 1 ?hyp1 hS0 ?restp1
   case hyp1 => intro wx hSx; exact Dp.run_load_op rfl rfl (HLD1.out wx hSx)
   simp only [Act.put, Dp.tks]
   refine' Dp.tj 2 hS0 ?_
   simp only [Act.put, Dp.tks]
   refine' Dp.tk (v := .string (Dp.str (l.drop 68))) 3 ?hyq3 hS0 ?restq3
   case hyq3 => intro wx hSx; rw [← HSD.out]; go_simp
   simp only [Act.put, Dp.tks]
   refine' Dp.tj 4 hS0 ?_
   simp only [Act.put, Dp.tks]
   refine' Dp.tj 5 hS0 ?_
   simp only [Act.put, Dp.tks]
   refine' Dp.tj 6 hS0 ?_
   simp only [Act.put, Dp.tks]
   refine' Dp.tj 7 hS0 ?_
   simp only [Act.put, Dp.tks]
   refine' Dp.tj 8 hS0 ?_
   simp only [Act.put, Dp.tks]
   refine' Dp.wpAnyL_tell 9 rfl (by kernel_rfl) (fun _ _ _ h => h) (by rfl) 88 #[.string (Dp.str (l.drop 68)), .int .i64 (U.reg i.c)] ?he9 (fun wx _ => HTO.out wx) hS0 ?rest9
   case he9 => intro wx hSx; go_simp; try with_reducible rfl
   simp only [Act.put, Dp.tks]
   refine Dp.wpAnyL_one 10 rfl (by kernel_rfl) (by rfl) (fun K hK => ?_)
   go_simp
   with_reducible refine (HMX.out _).mono ?_
   rintro e w8 ⟨rfl, k8⟩
   refine hK _ _ ⟨fun h => absurd h (Nat.lt_irrefl _), ?_⟩
   clear hK K
   refine Dp.wpAnyL_one 11 rfl (by kernel_rfl) (by rfl) (fun K hK => ?_)
   go_simp
   with_reducible refine (refLabelX MV RT _ HMV.out HRB.out).mono ?_
   rintro e w9 ⟨rfl, k9⟩
   refine hK _ _ ⟨fun h => absurd h (by omega), ?_⟩
   clear hK K
   refine Dp.wpAnyL_one 12 rfl (by kernel_rfl) (by rfl) (fun K hK => ?_)
   go_simp
   with_reducible refine (refSum _ _ (by rw [Dp.str_size, HLL.out]; simp [maxLen])).mono ?_
   rintro e wA ⟨rfl, hww⟩
   subst wA
   rw [Dp.str_data]
   refine hK _ _ ⟨fun h => absurd h (by omega), ?_⟩
   clear hK K
   refine Dp.wpAnyL_rest (by kernel_rfl) ?_
   refine Dp.wpAny_tail 13 rfl (by kernel_rfl) ?_
   simp only [List.drop_succ_cons, List.drop_zero]
   have HKF : Hid (Dp.Keeps (fun _ => False) w w9) := ((kkq.trans hS0).trans k8).trans k9
   clear e3 e4 hS0 k8 k9 kkq
   generalize Dp.sum (Dp.label MV RT) = X at *
   go_wp2
   go_ret2
   rw [HD3.out]
   exact ⟨rfl, HKF.out⟩
  ·have o19 : (i.op == 19) = false := by simpa using h19
   by_cases hl67 : l.length = 67
   case neg =>
    have hg : ((l.length : Int) != 67) = true := by simp; omega
    have HD2 : Hid (Dp.docCheck S l = (0, 6)) := by unfold Hid; rw [HD1.out, if_neg h1314, if_neg h19, if_pos hl67]
    clear h19 h1314 HD1 rs7 ri
    go_wp2
    go_ret2
    rw [HD2.out]
    exact ⟨rfl, kk7⟩
   have hg : ((l.length : Int) != 67) = false := by simp [hl67]
   have HD2 : Hid (Dp.docCheck S l = if (Dp.plain U i).2 ≠ 0 then (0, (Dp.plain U i).2) else (Dp.sum (Dp.label (Dp.plain U i).1 RT), 0)) := by
    unfold Hid; rw [HD1.out, if_neg h1314, if_neg h19, if_neg (by simpa using hl67)]; rfl
   have HPO := Hid.mk_ (Dp.plain_ok HOK.out i)
   have HPX : Hid (∀ wx : World, Calls Tryz.prog 89 #[.agg (Dp.stCells U RT).toArray, .agg (Dp.insCells i).toArray] wx fun e w' => e = .returned (.tuple #[.agg (Dp.stCells (Dp.plain U i).1 RT).toArray, .int .i64 (Dp.plain U i).2]) ∧ Dp.Keeps (fun _ => False) wx w') := fun wx => refPlainX U RT i wx HOK.out HIO.out
   clear h19 h1314 HD1 rs7 ri hl67
   go_wp2_with (first | (refine Dp.wpList_load_in rfl 74 _ rfl G 0 rfl 74 [] _ [] HRS.out rfl _ Tryz.underlying74 rfl (by rw [sizeState, HM.out]) ?_; intro _) | (refine Dp.wpList_load_in rfl 143 _ rfl J 0 rfl 143 [] _ [] HRI.out rfl _ Tryz.underlying143 rfl (by rw [sizeIns]; rfl) ?_; intro _))
   with_reducible refine (HPX.out _).mono ?_
   rintro e w8 ⟨rfl, k8⟩
   generalize Dp.plain U i = PR at *
   have kk8 := kk7.trans k8
   have z8 := kk8.size
   have HMP : Hid ((Dp.stCells PR.1 RT).length = 13) := Dp.stCells_length _ _ HPO.out.len
   have HLL : Hid ((Dp.label PR.1 RT).length = 47) := Dp.label_length _ _ HPO.out.len
   clear k8 kk7 HRS HRI HPX i0 i1 i2 i3 i4
   go_wp2_with (refine Dp.wpList_alloc_row rfl 74 rfl _ zeroState ?_)
   intro w9 r9 z9 k9
   have HR9 := Hid.mk_ (Dp.row_nil r9)
   clear r9
   go_wp2_with (refine Dp.wpList_store_in rfl 74 _ _ rfl w8.heap.size 0 rfl (Dp.stCells PR.1 RT) rfl 74 [] _ [] HR9.out rfl (HMP.out.trans rfl) (by rw [sizeState, HMP.out]) (Dp.stCells_one _ _) ?_)
   intro wA rA zA kA
   have HRA : Hid (Dp.Row wA w8.heap.size 74 ([] ++ Dp.stCells PR.1 RT ++ [])) := Dp.row_nil (by simpa using rA)
   have kkA : Dp.Keeps (fun _ => False) w wA := (kk8.trans k9).next kA (fun q hq e => by omega)
   clear rA kA k9 HR9 kk8
   by_cases hz : PR.2 = 0
   ·have hg3 : (PR.2 != 0) = false := by simp [hz]
    have HD3 : Hid (Dp.docCheck S l = (Dp.sum (Dp.label PR.1 RT), 0)) := by unfold Hid; rw [HD2.out, if_neg (by simpa using hz)]
    clear HD2 hz
    go_wp2_with (refine Dp.wpList_load_in rfl 74 _ rfl w8.heap.size 0 rfl 74 [] _ [] HRA.out rfl _ Tryz.underlying74 rfl (by rw [sizeState, HMP.out]) ?_; intro _)
    with_reducible refine (refLabelX PR.1 RT _ HPO.out HRB.out).mono ?_
    rintro e wB ⟨rfl, kB⟩
    go_wp2_with fail
    with_reducible refine (refSum _ _ (by rw [Dp.str_size, HLL.out]; simp [maxLen])).mono ?_
    rintro e wC ⟨rfl, hww⟩
    subst wC
    rw [Dp.str_data]
    generalize Dp.sum (Dp.label PR.1 RT) = X at *
    go_wp2
    go_ret2
    rw [HD3.out]
    exact ⟨rfl, kkA.trans kB⟩
   ·have hg3 : (PR.2 != 0) = true := by simpa using hz
    have HD3 : Hid (Dp.docCheck S l = (0, PR.2)) := by unfold Hid; rw [HD2.out, if_pos hz]
    clear HD2 hz
    go_wp2
    go_ret2
    rw [HD3.out]
    exact ⟨rfl, kkA⟩
theorem refCheck (S : Int) (l : List UInt8) (w : World) (hl : l.length ≤ 16777216) :
  Calls Tryz.prog 95 #[.int .i64 S, .string (Dp.str l)] w fun e w' => e = .returned (.tuple #[.int .i64 (Dp.checked S l).1, .int .i64 (Dp.checked S l).2]) ∧ Dp.Keeps (fun _ => False) w w' := by
 rw [Dp.checked_doc]
 exact refCheckDoc S l w hl
namespace Dp
theorem wpList_build_three {P : Program} {w : World} {ops : Array Oper} {rest : List Oper} {o : Oper} {a : Act} {Q : Exit → Act → World → Prop} (hgd : o.guard = none) (t : TypeId) (i j k : Nat) (x y z : Operand) (ho : o.op = .build t #[(i, x), (j, y), (k, z)]) (u1 u2 u3 v : Value) (hx : a.eval x = u1) (hy : a.eval y = u2) (hz : a.eval z = u3)
  (hrun : (Instr.build t #[(i, u1), (j, u2), (k, u3)]).run P w = .ok v w) (h : Hid True → wpList P ops Q rest (a.put o.dst v) w) : wpList P ops Q (o :: rest) a w := by
 refine wpList_plain hgd fun K hK => ?_
 have e : (execOp a.eval o).run P w = .ok (.value v) w := by
  unfold execOp
  simp only [ho, List.map_toArray, List.map_cons, List.map_nil, hx, hy, hz, Sem.run_bind, hrun, Result.andThen_ok, Sem.run_pure]
 unfold Oper.wp
 rw [e]
 exact hK _ _ (h trivial)
theorem eight_of {l : List Int} (h : l.length = 8) : ∃ a b c d e f g i, l = [a, b, c, d, e, f, g, i] := by
 match l, h with
 | [a, b, c, d, e, f, g, i], _ => exact ⟨a, b, c, d, e, f, g, i, rfl⟩
end Dp
theorem buildTwin (s : Dp.Cs) (hl : s.regs.length = 8) (r : Int) (stale : Bool) (ad : Option Addr) (n cap : Nat) (w : World) :
  (Instr.build 113 #[(0, .agg (Dp.stCells s r).toArray), (1, .bool stale), (3, .slice ad n cap)]).run Tryz.prog w = .ok (.agg (Dp.refCells s r stale (.slice none 0 0) (.slice ad n cap)).toArray) w := by
 obtain ⟨pc, steps, code, over, regs⟩ := s
 obtain ⟨a, b, c, d, e, f, g, i, rfl⟩ := Dp.eight_of hl
 kernel_rfl
set_option maxRecDepth 100000 in
set_option maxHeartbeats 1000000 in
theorem refTwin (w : World) (p g : Nat) (vs : Value) (m : Dp.Mach) (h : Dp.RefM w p g vs m) :
  Calls Tryz.prog 93 #[.pointer (some ⟨p, 0, none⟩)] w fun e w' => ∃ p' g', e = .returned (.pointer (some ⟨p', 0, none⟩)) ∧ w.heap.size ≤ p' ∧ w.heap.size ≤ g' ∧ Dp.Keeps (fun _ => False) w w' ∧ Dp.RefM w' p' g' vs m := by
 obtain ⟨hok, ⟨r, stale, tail, h1, h2, h3, h4, h5, h6⟩, h7⟩ := h
 have hl := hok.s.len
 have HOK := Hid.mk_ hok
 have H3 := Hid.mk_ h3
 have H7 := Hid.mk_ h7
 obtain ⟨sa, sc, esv⟩ := h7.isSlice
 generalize hsn : (Dp.strCells m.srcs).length = sn at *
 clear hsn
 subst esv
 have hS0 : Dp.Keeps (fun _ => False) w w.drew := (Dp.Keeps.refl _ _).drew
 have HL0 : Hid (∀ wx, Dp.Keeps (fun _ => False) w wx → (Instr.loadAt 74 (.pointer (some ⟨p, 0, none⟩))).run Tryz.prog wx = .ok (.agg (Dp.stCells m.s r).toArray) wx) := fun wx kx => runLoadSt (h1.keep kx (fun e => e)) hl
 have q13 : ∀ wx, Dp.Keeps (fun _ => False) w wx → wx.cell? ⟨p, 13, none⟩ = some (.bool stale) := fun wx kx => ((h1.keep kx (fun e => e)).refC hl).2.2.2.2.2.1
 have q15 : ∀ wx, Dp.Keeps (fun _ => False) w wx → wx.cell? ⟨p, 15, none⟩ = some (.slice sa sn sc) := fun wx kx => ((h1.keep kx (fun e => e)).refC hl).2.2.2.2.2.2.2
 have HBT : Hid (∀ wx, (Instr.build 113 #[(0, .agg (Dp.stCells m.s r).toArray), (1, .bool stale), (3, .slice sa sn sc)]).run Tryz.prog wx = .ok (.agg (Dp.refCells m.s r stale (.slice none 0 0) (.slice sa sn sc)).toArray) wx) := fun wx => buildTwin m.s hl r stale sa sn sc wx
 have H1 := Hid.mk_ h1
 have H2 := Hid.mk_ h2
 have hp := h1.lt
 have hg := h2.lt
 obtain ⟨RC, hRC⟩ : ∃ RC, RC = Dp.refCells m.s r stale (.slice none 0 0) (.slice sa sn sc) := ⟨_, rfl⟩
 rw [← hRC] at HBT
 have HRC := Hid.mk_ hRC
 generalize (Dp.stCells m.s r).toArray = SC at HL0 HBT
 clear h1 h2 h3 h7 hok hRC
 go_enter Tryz.func93, Tryz.ntmps93
 go_wp2
 refine Dp.wp_region_L (fun wx => Dp.Keeps (fun _ => False) w wx) 12 mixedZ ?_
 refine' Dp.tj 0 hS0 ?_
 simp only [Act.put, Dp.tks]
 refine' Dp.tj 1 hS0 ?_
 simp only [Act.put, Dp.tks]
 refine' Dp.tj 2 hS0 ?_
 simp only [Act.put, Dp.tks]
 refine' Dp.tk (v := .agg SC) 3 ?hyp3 hS0 ?restp3
 case hyp3 => intro wx hSx; exact Dp.run_load_op rfl rfl (HL0.out wx hSx)
 simp only [Act.put, Dp.tks]
 refine' Dp.tj 4 hS0 ?_
 simp only [Act.put, Dp.tks]
 refine' Dp.tj 5 hS0 ?_
 simp only [Act.put, Dp.tks]
 refine' Dp.tj 6 hS0 ?_
 simp only [Act.put, Dp.tks]
 refine' Dp.tj 7 hS0 ?_
 simp only [Act.put, Dp.tks]
 refine' Dp.tj 8 hS0 ?_
 simp only [Act.put, Dp.tks]
 refine' Dp.tj 9 hS0 ?_
 simp only [Act.put, Dp.tks]
 refine' Dp.tj 10 hS0 ?_
 simp only [Act.put, Dp.tks]
 refine' Dp.tj 11 hS0 ?_
 simp only [Act.put, Dp.tks]
 refine Dp.wpAnyL_rest (by kernel_rfl) ?_
 refine Dp.wpAny_tail 12 rfl (by kernel_rfl) ?_
 simp only [List.drop_succ_cons, List.drop_zero]
 go_wp2_with (refine Dp.wpList_build_three rfl 113 0 1 3 _ _ _ rfl (.agg SC) (.bool stale) (.slice sa sn sc) (.agg RC.toArray) rfl rfl rfl (HBT.out w.drew) ?_; intro _)
 have r1 : Dp.Row (w.alloc (.cells RC.toArray 113)).drew w.heap.size 113 RC := (Dp.Row.allocNew w 113 RC).drew
 have k1 : Dp.Keeps (fun _ => False) w (w.alloc (.cells RC.toArray 113)).drew := ((Dp.Keeps.refl _ _).alloc _).drew
 have z1 : (w.alloc (.cells RC.toArray 113)).drew.heap.size = w.heap.size + 1 := by simp
 generalize (w.alloc (.cells RC.toArray 113)).drew = w1 at *
 rw [HRC.out] at r1
 have p1 := H1.out.keep k1 (fun e => e)
 have g1 := H2.out.keep k1 (fun e => e)
 have hS1 : Dp.Keeps (fun _ => False) w1 w1.drew := (Dp.Keeps.refl _ _).drew
 have qt : ∀ wx, Dp.Keeps (fun _ => False) w1 wx → wx.cell? ⟨w.heap.size, 14, none⟩ = some (.slice none 0 0) := fun wx kx => ((r1.keep kx (fun e => e)).refC hl).2.2.2.2.2.2.1
 have qm : ∀ wx, Dp.Keeps (fun _ => False) w1 wx → wx.cell? ⟨p, 14, none⟩ = some (.slice (some ⟨g, 0, none⟩) 256 (256 + tail.length)) := fun wx kx => ((p1.keep kx (fun e => e)).refC hl).2.2.2.2.2.2.1
 have hrl : (Dp.regCells m.cells).length = 256 := by simp [Dp.regCells, HOK.out.len]
 have HNW : Hid (∀ j u, (Dp.regCells m.cells)[j]? = some u → w1.drew.cell? ((⟨g, 0, none⟩ : Addr).add j) = some u) := by
  intro j u hj
  have hjl : j < (Dp.regCells m.cells).length := (List.getElem?_eq_some_iff.1 hj).1
  rw [Dp.add_zero_off, (g1.keep hS1 (fun e => e)).cell, List.getElem?_append_left hjl, hj]
 have HRL := Hid.mk_ hrl
 clear q13 q15 hrl HL0 HBT hS0
 refine Dp.wp_region_K (fun wx => Dp.Keeps (fun _ => False) w1 wx) 12 mixedZ ?_
 refine' Dp.wpAnyK_take 0 rfl (by kernel_rfl) (fun _ _ _ h => h) (by rfl) ?hyk0 hS1 ?restk0
 case hyk0 => intro wx hSx; go_simp; try with_reducible rfl
 simp only [Act.put, Dp.tks]
 refine' Dp.wpAnyK_take 1 rfl (by kernel_rfl) (fun _ _ _ h => h) (by rfl) ?hyk1 hS1 ?restk1
 case hyk1 => intro wx hSx; go_simp; try with_reducible rfl
 simp only [Act.put, Dp.tks]
 refine' Dp.wpAnyK_take 2 rfl (by kernel_rfl) (fun _ _ _ h => h) (by rfl) ?hyk2 hS1 ?restk2
 case hyk2 => intro wx hSx; go_simp; try with_reducible rfl
 simp only [Act.put, Dp.tks]
 refine' Dp.wpAnyK_take 3 rfl (by kernel_rfl) (fun _ _ _ h => h) (by rfl) ?hyk3 hS1 ?restk3
 case hyk3 => intro wx hSx; go_simp; try with_reducible rfl
 simp only [Act.put, Dp.tks]
 refine' Dp.wpAnyK_take 4 rfl (by kernel_rfl) (fun _ _ _ h => h) (by rfl) ?hyk4 hS1 ?restk4
 case hyk4 => intro wx hSx; go_simp; try with_reducible rfl
 simp only [Act.put, Dp.tks]
 refine' Dp.wpAnyK_take 5 rfl (by kernel_rfl) (fun _ _ _ h => h) (by rfl) ?hyk5 hS1 ?restk5
 case hyk5 => intro wx hSx; go_simp; try with_reducible rfl
 simp only [Act.put, Dp.tks]
 refine' Dp.wpAnyK_take 6 rfl (by kernel_rfl) (fun _ _ _ h => h) (by rfl) ?hyk6 hS1 ?restk6
 case hyk6 => intro wx hSx; go_simp; try with_reducible rfl
 simp only [Act.put, Dp.tks]
 refine' Dp.wpAnyK_take 7 rfl (by kernel_rfl) (fun _ _ _ h => h) (by rfl) ?hyk7 hS1 ?restk7
 case hyk7 => intro wx hSx; go_simp; try with_reducible rfl
 simp only [Act.put, Dp.tks]
 refine' Dp.wpAnyK_take 8 rfl (by kernel_rfl) (fun _ _ _ h => h) (by rfl) ?hyk8 hS1 ?restk8
 case hyk8 => intro wx hSx; go_simp; try with_reducible rfl
 simp only [Act.put, Dp.tks]
 refine Dp.wpAnyK_one 9 rfl (by kernel_rfl) (by rfl) (fun K hK => ?_)
 refine Dp.wp_append_Own _ _ 22 rfl 3 (.int .i64 0) 8 Tryz.underlying22 infoInt rfl (.slice none 0 0) [] rfl (Dp.Own.nil _ _) ⟨g, 0, none⟩ 256 (256 + tail.length) (Dp.regCells m.cells) rfl HRL.out HNW.out (fun x hx => by simp only [Dp.regCells, List.mem_map] at hx; obtain ⟨y, _, rfl⟩ := hx; rfl) (by omega) (by simp [maxLen]) (by simp) ?_
 intro v3 w3 own3 k3 sz3
 have hS2 : Dp.Keeps (fun _ => False) w1 w3 := hS1.trans (k3.mono (fun q _ e => by simp [Value.ownBlock] at e))
 refine hK _ _ ⟨fun _ => hS2, ?_⟩
 clear hK K
 simp only [Act.put, Dp.tks]
 refine Dp.wpAnyK_one 10 rfl (by kernel_rfl) (by rfl) (fun K hK => ?_)
 go_simp
 refine hK _ _ ⟨fun _ => hS2, ?_⟩
 clear hK K
 refine Dp.wpAnyK_one 11 rfl (by kernel_rfl) (by rfl) (fun K hK => ?_)
 go_simp
 refine hK _ _ ⟨fun _ => hS2, ?_⟩
 clear hK K
 have r3 := r1.keep hS2 (fun e => e)
 have c14 := (r3.refC hl).2.2.2.2.2.2.1
 have f14 := r3.frozen 14
 obtain ⟨g3, tail3, e3, hg3, ht3⟩ : ∃ g3 tail3, v3 = .slice (some ⟨g3, 0, none⟩) 256 (256 + tail3.length) ∧ Dp.Row w3 g3 3 (Dp.regCells m.cells ++ tail3) ∧ 256 + tail3.length ≤ maxLen := by
  rcases own3 with ⟨_, hx⟩ | ⟨g3, tail3, hv, hr, hm⟩
  ·have := HRL.out; rw [List.nil_append] at hx; rw [hx] at this; simp at this
  ·rw [List.nil_append, HRL.out] at hv hm
   rw [List.nil_append] at hr
   exact ⟨g3, tail3, hv, hr, hm⟩
 have hgn : w.heap.size ≤ g3 := by
  rcases sz3.out with h | h
  ·rw [e3] at h; simp [Value.ownBlock] at h
  ·rw [e3] at h
   simp [Value.ownBlock] at h
   have := hS1.size
   omega
 subst e3
 refine Dp.wpAnyK_one 12 rfl (by kernel_rfl) (by rfl) (fun K hK => ?_)
 go_simp
 refine hK _ _ ⟨fun h => absurd rfl h, ?_⟩
 clear hK K
 refine Dp.wpAnyK_done (by kernel_rfl) ?_ _
 have hne : g3 ≠ w.heap.size := hg3.ne r3 (by decide)
 have HRM : Hid (Dp.RefM (w3.setCell ⟨w.heap.size, 14, none⟩ (.slice (some ⟨g3, 0, none⟩) 256 (256 + tail3.length))) w.heap.size g3 (.slice sa sn sc) m) := by
  refine ⟨HOK.out, ⟨r, stale, tail3, ?_, hg3.setOther _ _ hne, H3.out, h4, h5, ht3⟩, ?_⟩
  ·have h := r3.set 14 (.slice (some ⟨g3, 0, none⟩) 256 (256 + tail3.length))
   have e : (Dp.refCells m.s r stale (.slice none 0 0) (.slice sa sn sc)).set 14 (.slice (some ⟨g3, 0, none⟩) 256 (256 + tail3.length)) = Dp.refCells m.s r stale (.slice (some ⟨g3, 0, none⟩) 256 (256 + tail3.length)) (.slice sa sn sc) := by
    have h13 := Dp.stCells_length m.s r hl
    unfold Dp.refCells
    rw [List.set_append_right _ _ (by omega), h13]
    rfl
   rw [e] at h
   exact h
  ·have o3 := (H7.out.keep k1 (fun _ _ e => e)).keep hS2 (fun _ _ e => e)
   exact o3.keep ((Dp.Keeps.refl (fun q => q = w.heap.size) w3).setCell (p := ⟨w.heap.size, 14, none⟩) (.inr rfl) _) (fun q hq e => o3.ne r3 (by decide) q hq e)
 have HKF : Hid (Dp.Keeps (fun _ => False) w (w3.setCell ⟨w.heap.size, 14, none⟩ (.slice (some ⟨g3, 0, none⟩) 256 (256 + tail3.length)))) := (k1.trans hS2).setCell (.inl (Nat.le_refl _)) _
 generalize w3.setCell ⟨w.heap.size, 14, none⟩ (.slice (some ⟨g3, 0, none⟩) 256 (256 + tail3.length)) = w5 at *
 clear qt qm c14 f14 r3 hg3 own3 k3 sz3 hS2 hS1 r1 p1 g1 k1
 go_wp2
 go_ret
 exact ⟨_, g3, rfl, Nat.le_refl _, hgn, HKF.out, HRM.out⟩
end Go.Proofs.YtdipojfngdceoaaGreatDoor
