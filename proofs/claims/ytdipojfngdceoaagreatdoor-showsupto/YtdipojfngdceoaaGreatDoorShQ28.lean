/- Steps on the way: ProgTexts. -/
import Derived.Test.YtdipojfngdceoaaGreatDoorShQ09
import Derived.Test.YtdipojfngdceoaaGreatDoorShQ27
namespace Go.Proofs.YtdipojfngdceoaaGreatDoor
open Go.RowKit
namespace Dp
def ptext (word : Int) (os : List Int) (n : Nat) : Nat → List UInt8
 | 0 => cellText word
 | k + 1 => if n / 2 ^ k % 2 = 0 then halvesText (sum (ptext word os n k)) (os.getD k 0) else halvesText (os.getD k 0) (sum (ptext word os n k))
theorem ptext_length (word : Int) (os : List Int) (n k : Nat) : (ptext word os n k).length = 5 := by
 cases k with
 | zero => rfl
 | succ k => unfold ptext; split <;> rfl
theorem ptext_rooted (l : List UInt8) (word : Int) (n : Nat) : ∀ k, k ≤ 8 → sum (ptext word (others l 8) n k) = rooted l word n k
 | 0, _ => rfl
 | k + 1, h => by
  have ih := ptext_rooted l word n k (by omega)
  have ho : (others l 8).getD k 0 = numTo l (4 + 2 * k) 2 := by
   unfold others
   rw [List.getD_eq_getElem?_getD, List.getElem?_map, List.getElem?_range (by omega)]; rfl
  unfold ptext rooted
  rw [ih, ho]
  split <;> rfl
theorem others_bd (l : List UInt8) (k : Nat) : ∀ x ∈ others l k, 0 ≤ x ∧ x < 65536 := by
 intro x hx
 simp only [others, List.mem_map] at hx
 obtain ⟨i, _, rfl⟩ := hx
 exact numTo_two l _
theorem others_length (l : List UInt8) (k : Nat) : (others l k).length = k := by simp [others]
theorem getD_word {l : List Int} (h : ∀ x ∈ l, 0 ≤ x ∧ x < 65536) (k : Nat) : 0 ≤ l.getD k 0 ∧ l.getD k 0 < 65536 := by
 rw [List.getD_eq_getElem?_getD]
 cases e : l[k]? with
 | none => simp
 | some x => exact h x (List.mem_of_getElem? e)
structure TextsTo (lo : Nat) (w : World) (vs : List Value) (word : Int) (os : List Int) (n k : Nat) : Prop where
 len : vs.length = 9
 one : ∀ v ∈ vs, v.oneCell' = true
 at_ : ∀ j, j ≤ k → ∃ B, vs[8 - j]? = some (.slice (some ⟨B, 0, none⟩) 5 5) ∧ Row w B 5 (vals (ptext word os n j)) ∧ lo ≤ B
theorem TextsTo.keep {S : Nat → Prop} {lo : Nat} {w w' : World} {vs : List Value} {word : Int} {os : List Int} {n k : Nat} (h : TextsTo lo w vs word os n k) (kk : Keeps S w w') (hS : ∀ B e, Row w B 5 e → ¬ S B) : TextsTo lo w' vs word os n k :=
 ⟨h.len, h.one, fun j hj => let ⟨B, h1, h2, h3⟩ := h.at_ j hj; ⟨B, h1, h2.keep kk (hS B _ h2), h3⟩⟩
theorem TextsTo.put {lo : Nat} {w : World} {vs : List Value} {word : Int} {os : List Int} {n k : Nat} (h : TextsTo lo w vs word os n k) (hk : k < 8) (B : Nat) (hB : Row w B 5 (vals (ptext word os n (k + 1)))) (hlo : lo ≤ B) : TextsTo lo w (vs.set (7 - k) (.slice (some ⟨B, 0, none⟩) 5 5)) word os n (k + 1) := by
 refine ⟨by rw [List.length_set]; exact h.len, fun v hv => (List.mem_or_eq_of_mem_set hv).elim (h.one v) (fun e => e ▸ rfl), fun j hj => ?_⟩
 by_cases hjk : j = k + 1
 ·subst hjk
  refine ⟨B, ?_, hB, hlo⟩
  rw [show 8 - (k + 1) = 7 - k by omega, List.getElem?_set_self (by rw [h.len]; omega)]
 ·obtain ⟨B', h1, h2, h3⟩ := h.at_ j (by omega)
  refine ⟨B', ?_, h2, h3⟩
  rw [List.getElem?_set_ne (by omega)]; exact h1
def nilTexts : List Value := List.replicate 9 (.slice none 0 0)
end Dp
theorem sizeTexts : (Tryz.prog.info? 223).map (·.size) = some 9 := by kernel_rfl
theorem zeroTexts : (Tryz.prog.info? 223).map (fun i => i.zero) = some (some (.agg (Dp.nilTexts).toArray)) := by kernel_rfl
theorem sizeOthers : (Tryz.prog.info? 72).map (·.size) = some 8 := by kernel_rfl
set_option maxRecDepth 100000 in
set_option maxHeartbeats 1000000 in
theorem progTexts (word : Int) (os : List Int) (n : Nat) (w : World) (hw : Dp.isWord word) (hol : os.length = 8) (hob : ∀ x ∈ os, 0 ≤ x ∧ x < 65536) :
  Calls Tryz.prog 184 #[.agg (Dp.proofCells word os).toArray, .int .u32 n] w fun e w' => ∃ vs, e = .returned (.agg vs.toArray) ∧ Dp.TextsTo w.heap.size w' vs word os n 8 ∧ Dp.Keeps (fun _ => False) w w' := by
 go_enter Tryz.func184, Tryz.ntmps184
 go_wp2_with (refine Dp.wpList_box_row rfl 219 _ rfl (Dp.proofCells word os) rfl ?_)
 intro w1 r1 z1 k1
 go_wp2_with (refine Dp.wpList_alloc_row rfl 223 rfl _ zeroTexts ?_)
 intro w2 r2 z2 k2
 go_wp2_with (refine Dp.wpList_alloc_row rfl 223 rfl _ zeroTexts ?_)
 intro w3 r3 z3 k3
 have rp := (r1.keep k2 (fun e => e)).keep k3 (fun e => e)
 have rr := r2.keep k3 (fun e => e)
 have c0 : w3.cell? ⟨w.heap.size, 0, none⟩ = some (.int .u32 word) := rp.cell 0
 have kk3 : Dp.Keeps (fun _ => False) w w3 := (k1.trans k2).trans k3
 clear r1 r2 k1 k2 k3
 go_wp2_with fail
 refine (progCellText word _ hw).mono ?_
 rintro e w4 ⟨rfl, r4, z4, k4⟩
 have rp4 := rp.keep k4 (fun e => e)
 have rr4 := rr.keep k4 (fun e => e)
 have rg4 := r3.keep k4 (fun e => e)
 have kk4 := kk3.trans k4
 have c8 : w4.cell? ⟨w.heap.size + 1 + 1, 8, none⟩ = some (.slice none 0 0) := rg4.cell 8
 have f8 := rg4.frozen 8
 rw [z3] at r4
 clear rp rr r3 kk3 k4 c0
 have HP5 : Hid (Dp.Row (w4.setCell ⟨w.heap.size + 1 + 1, 8, none⟩ (.slice (some ⟨w.heap.size + 1 + 1 + 1 + 1, 0, none⟩) 5 5)) w.heap.size 219 ([.int .u32 word] ++ Dp.intCells os ++ [])) := by
  have h := rp4.setOther ⟨w.heap.size + 1 + 1, 8, none⟩ (.slice (some ⟨w.heap.size + 1 + 1 + 1 + 1, 0, none⟩) 5 5) (show w.heap.size ≠ w.heap.size + 1 + 1 by omega)
  unfold Hid; rw [List.append_nil]; exact h
 have HO : Hid ((Dp.intCells os).length = 8) := by unfold Hid Dp.intCells; rw [List.length_map]; exact hol
 have hbt : w.heap.size + 1 + 1 ≠ w.heap.size + 1 + 1 + 1 + 1 := by omega
 have HR5 := Hid.mk_ (rr4.setOther ⟨w.heap.size + 1 + 1, 8, none⟩ (.slice (some ⟨w.heap.size + 1 + 1 + 1 + 1, 0, none⟩) 5 5) (show w.heap.size + 1 ≠ w.heap.size + 1 + 1 by omega))
 have HT5 := Hid.mk_ (r4.setOther ⟨w.heap.size + 1 + 1, 8, none⟩ (.slice (some ⟨w.heap.size + 1 + 1 + 1 + 1, 0, none⟩) 5 5) (fun e => hbt e.symm))
 have HG5 := Hid.mk_ (rg4.set 8 (.slice (some ⟨w.heap.size + 1 + 1 + 1 + 1, 0, none⟩) 5 5))
 have HK5 : Hid (Dp.Keeps (fun _ => False) w (w4.setCell ⟨w.heap.size + 1 + 1, 8, none⟩ (.slice (some ⟨w.heap.size + 1 + 1 + 1 + 1, 0, none⟩) 5 5))) := kk4.setCell (p := ⟨w.heap.size + 1 + 1, 8, none⟩) (.inl (show w.heap.size ≤ w.heap.size + 1 + 1 by omega)) _
 clear rp4 rr4 rg4 kk4 r4 hbt
 go_wp2_with (refine Dp.wpList_load_in rfl 72 _ rfl w.heap.size 1 rfl 219 _ _ _ HP5.out rfl _ Tryz.underlying72 rfl (by rw [sizeOthers, HO.out]) ?_)
 intro _
 go_wp2
 generalize w4.setCell ⟨w.heap.size + 1 + 1, 8, none⟩ (.slice (some ⟨w.heap.size + 1 + 1 + 1 + 1, 0, none⟩) 5 5) = w5 at *
 go_loopw [6, 7, 8, 9, 10, 18] (fun t _ _ _ _ i wr => ∃ (k B : Nat) (vs : List Value), k ≤ 8 ∧ i = .int .i64 k ∧ t = .slice (some ⟨B, 0, none⟩) 5 5 ∧ Dp.Row wr B 5 (Dp.vals (Dp.ptext word os n k)) ∧ Dp.TextsTo w.heap.size wr vs word os n k ∧ Dp.Row wr (w.heap.size + 1 + 1) 223 vs ∧ Dp.Row wr (w.heap.size + 1) 223 Dp.nilTexts ∧ Dp.Keeps (fun _ => False) w wr) (fun _ _ _ _ _ i _ => 8 - (intOf i).toNat)
 case atStart =>
  refine ⟨0, _, _, Nat.zero_le _, rfl, rfl, HT5.out, ⟨rfl, ?_, ?_⟩, HG5.out, HR5.out, HK5.out⟩
  ·intro v hv
   rcases List.mem_or_eq_of_mem_set hv with h | rfl
   ·simp only [Dp.nilTexts, List.mem_replicate] at h; rw [h.2]; rfl
   ·rfl
  ·intro j hj
   obtain rfl : j = 0 := by omega
   exact ⟨_, rfl, HT5.out, by omega⟩
 case round =>
  obtain ⟨k, B, vs, hk, rfl, rfl, rt, ht, rg, rz, kr⟩ := hrel
  clear HP5 HR5 HT5 HG5 HK5
  by_cases hlt : k < 8
  ·have hx : (Dp.intCells os).toArray[k]? = some (.int .i64 (os.getD k 0)) := by
    simp [Dp.intCells, hol, hlt]
   have hidx : ∀ wx, (Instr.index 72 (.agg (Dp.intCells os).toArray) (.int .i64 (k : Int))).run Tryz.prog wx = .ok (.int .i64 (os.getD k 0)) wx := fun wx => Dp.run_index_one wx 72 3 8 _ k _ (by rfl) (by rfl) (by rfl) hlt hx
   have ho := Dp.getD_word hob k
   have bt : Dp.Bytes wr (.slice (some ⟨B, 0, none⟩) 5 5) (Dp.ptext word os n k) := by
    have h := Dp.bytes_row rt (by rw [Dp.ptext_length]; simp [maxLen]) 5
    rwa [Dp.ptext_length] at h
   have hpt := Dp.parts_just (e := 47) bt
   clear hx
   have HE : Hid (Dp.ptext word os n (k + 1) = if n / 2 ^ k % 2 = 0 then Dp.halvesText (Dp.sum (Dp.ptext word os n k)) (os.getD k 0) else Dp.halvesText (os.getD k 0) (Dp.sum (Dp.ptext word os n k))) := rfl
   generalize os.getD k 0 = O at *
   have hs := Dp.sum_bd (Dp.ptext word os n k)
   have hcases : ((((n : Int) / 2 ^ k).tmod 2 == 1) = false ∧ ∃ X Y : Int, X = Dp.sum (Dp.ptext word os n k) ∧ Y = O ∧ Hid (Dp.ptext word os n (k + 1) = Dp.halvesText X Y)) ∨ ((((n : Int) / 2 ^ k).tmod 2 == 1) = true ∧ ∃ X Y : Int, X = O ∧ Y = Dp.sum (Dp.ptext word os n k) ∧ Hid (Dp.ptext word os n (k + 1) = Dp.halvesText X Y)) := by
    have e1 : ((n : Int) / 2 ^ k).tmod 2 = ((n / 2 ^ k % 2 : Nat) : Int) := by
     have e0 : ((n : Int) / 2 ^ k) = ((n / 2 ^ k : Nat) : Int) := by simp
     rw [e0, Int.tmod_eq_emod_of_nonneg (Int.natCast_nonneg _)]; simp
    rw [e1]
    by_cases hpar : n / 2 ^ k % 2 = 0
    ·refine .inl ⟨by rw [hpar]; rfl, _, _, rfl, rfl, ?_⟩
     have := HE.out; rw [if_pos hpar] at this; exact this
    ·refine .inr ⟨by rw [show n / 2 ^ k % 2 = 1 by omega]; rfl, _, _, rfl, rfl, ?_⟩
     have := HE.out; rw [if_neg hpar] at this; exact this
   clear HE
   have hg8 := rg.lt
   have hvl := ht.len
   have c7 : wr.cell? ⟨w.heap.size + 1 + 1, 7 - k, none⟩ = some (vs.getD (7 - k) undef) := by
    rw [rg.cell, List.getD_eq_getElem?_getD, List.getElem?_eq_getElem (by omega)]; rfl
   have hsub : ((7 : Int) - (k : Int)).toNat = 7 - k := by omega
   rcases hcases with ⟨hg, X, Y, hX, hY, HE⟩ | ⟨hg, X, Y, hX, hY, HE⟩
   all_goals
    go_wp2_with fail
    refine (digSum _ _ _ hpt).mono ?_
    rintro e w6 ⟨rfl, rfl⟩
    rw [show ([Dp.ptext word os n k] : List (List UInt8)).flatten = Dp.ptext word os n k by simp]
    go_wp2_with fail
    rw [← hX, ← hY]
    refine (progHalvesText X Y _ (by omega) (by omega)).mono ?_
    rintro e w7 ⟨rfl, r7, z7, k7⟩
    rw [← HE.out] at r7
    have kw : Dp.Keeps (fun _ => False) wr w7 := ((Dp.Keeps.refl _ _).alloc _).trans k7
    have ht7 := ht.keep kw (fun _ _ _ e => e)
    have rg7 := rg.keep kw (fun e => e)
    have rz7 := rz.keep kw (fun e => e)
    have kr7 := kr.trans kw
    have c77 : w7.cell? ⟨w.heap.size + 1 + 1, 7 - k, none⟩ = some (vs.getD (7 - k) undef) := (kw.cell (p := ⟨w.heap.size + 1 + 1, 7 - k, none⟩) hg8 (fun e => e)).trans c7
    have f77 := rg7.frozen (7 - k)
    have hTlo : w.heap.size ≤ (wr.alloc (Obj.cells #[Value.slice (some ⟨B, 0, none⟩) 5 5] 47)).heap.size + 2 := by have := kr.size; simp; omega
    generalize (wr.alloc (Obj.cells #[Value.slice (some ⟨B, 0, none⟩) 5 5] 47)).heap.size + 2 = T at *
    have HQ : Hid (Dp.Row (w7.setCell ⟨w.heap.size + 1 + 1, 7 - k, none⟩ (.slice (some ⟨T, 0, none⟩) 5 5)) T 5 (Dp.vals (Dp.ptext word os n (k + 1)))) := r7.setOther _ _ (r7.ne rg7 (by decide))
    have HTT : Hid (Dp.TextsTo w.heap.size (w7.setCell ⟨w.heap.size + 1 + 1, 7 - k, none⟩ (.slice (some ⟨T, 0, none⟩) 5 5)) (vs.set (7 - k) (.slice (some ⟨T, 0, none⟩) 5 5)) word os n (k + 1)) :=
     (ht7.keep (S := fun i => i = w.heap.size + 1 + 1) (Dp.Keeps.setCell (S := fun i => i = w.heap.size + 1 + 1) (p := ⟨w.heap.size + 1 + 1, 7 - k, none⟩) (Dp.Keeps.refl _ _) (.inr rfl) _) (fun B e hB => hB.ne rg7 (by decide))).put hlt T HQ.out hTlo
    have HRG : Hid (Dp.Row (w7.setCell ⟨w.heap.size + 1 + 1, 7 - k, none⟩ (.slice (some ⟨T, 0, none⟩) 5 5)) (w.heap.size + 1 + 1) 223 (vs.set (7 - k) (.slice (some ⟨T, 0, none⟩) 5 5))) := rg7.set (7 - k) _
    have HRZ : Hid (Dp.Row (w7.setCell ⟨w.heap.size + 1 + 1, 7 - k, none⟩ (.slice (some ⟨T, 0, none⟩) 5 5)) (w.heap.size + 1) 223 Dp.nilTexts) := rz7.setOther _ _ (show w.heap.size + 1 ≠ w.heap.size + 1 + 1 by omega)
    have HKR : Hid (Dp.Keeps (fun _ => False) w (w7.setCell ⟨w.heap.size + 1 + 1, 7 - k, none⟩ (.slice (some ⟨T, 0, none⟩) 5 5))) := kr7.setCell (p := ⟨w.heap.size + 1 + 1, 7 - k, none⟩) (.inl (show w.heap.size ≤ w.heap.size + 1 + 1 by omega)) _
    clear r7 ht7 rg7 rz7 kr7 kw k7 z7 rt ht rg rz kr hpt bt c7 hidx
    go_wp2
    go_roundw
    case rel => exact ⟨k + 1, T, _, by omega, by go_num, rfl, HQ.out, HTT.out, HRG.out, HRZ.out, HKR.out⟩
    case measure => simp [intOf]; omega
  ·obtain rfl : k = 8 := by omega
   have HRK : Hid (Dp.Row wr (w.heap.size + 1 + 1) 223 ([] ++ vs ++ [])) := by
    unfold Hid; rw [List.append_nil, List.nil_append]; exact rg
   have HRZ : Hid (Dp.Row wr (w.heap.size + 1) 223 ([] ++ Dp.nilTexts ++ [])) := by
    unfold Hid; rw [List.append_nil, List.nil_append]; exact rz
   have HM := Hid.mk_ ht.len
   have H1 := Hid.mk_ ht.one
   have hrg : ∀ B e, Dp.Row wr B 5 e → ¬ B = w.heap.size + 1 := fun B e hB => hB.ne rz (by decide)
   clear rg rz rt
   go_wp2_with (first | (refine Dp.wpList_store_in rfl 223 _ _ rfl (w.heap.size + 1) 0 rfl vs rfl 223 [] _ [] HRZ.out rfl (HM.out.trans rfl) (by rw [sizeTexts, HM.out]) H1.out ?_) | (refine Dp.wpList_load_in rfl 223 _ rfl (w.heap.size + 1 + 1) 0 rfl 223 [] _ [] HRK.out rfl _ Tryz.underlying223 rfl (by rw [sizeTexts, HM.out]) ?_; intro _))
   intro w8 r8 z8 k8
   go_wp2
   refine bodyPost_ret (v := .agg vs.toArray) (results_cell_row rfl _ _ (w.heap.size + 1) 223 _ (0, 0) _ rfl r8 Tryz.underlying223 rfl (by rw [sizeTexts, List.size_toArray, HM.out])) rfl ?_
   exact ⟨vs, rfl, ht.keep k8 hrg, kr.next k8 (fun i hi e => by omega)⟩
end Go.Proofs.YtdipojfngdceoaaGreatDoor
