/- Steps on the way: ProgWitnessM, ProgProofs2, ProgClone, ProgProofs3. -/
import Derived.Test.YtdipojfngdceoabGreatDoorPack04
import Derived.Test.YtdipojfngdceoabGreatDoorPack74
import Derived.Test.YtdipojfngdceoabGreatDoorPack77
import Derived.Test.YtdipojfngdceoabGreatDoorPack80
import Derived.Test.YtdipojfngdceoabGreatDoorProg
import Derived.WalkKit
import Derived.WalkSpells
import Derived.WalkLawsBesides
/- A machine's witness. -/
namespace Go.Proofs.YtdipojfngdceoabGreatDoor
open Go.RowKit

theorem runLoadMem {w : World} {p o : Nat} {e : TypeId} {pre post : List Value} {vs : Value} {cells : List Int} (h : Dp.Row w p e (pre ++ Dp.memCells vs cells ++ post)) (ho : pre.length = o) (hl : cells.length = 256) : (Instr.loadAt 84 (.pointer (some ⟨p, o, none⟩))).run Tryz.prog w = .ok (.agg (Dp.memCells vs cells).toArray) w :=
  run_loadAt_mid w p o 84 _ _ (ho ▸ Dp.Row.range (pre := pre) h) Tryz.underlying84 rfl (by rw [sizeCellsT]; simp [Dp.memCells, Dp.wordCells, hl])

set_option maxRecDepth 100000 in
set_option maxHeartbeats 1000000 in
theorem progMWitness (w : World) (b : Nat) (G : Nat → Prop) (vs : Value) (m : Dp.Mach) (h : Dp.ProgM w b G vs m) :
    Calls Tryz.prog 10 #[.pointer (some ⟨b, 0, none⟩)] w fun e w' => ∃ v, e = .returned (.tuple #[v, .int .i64 m.step.2]) ∧ Dp.Own w' 5 v (Dp.vals (Dp.witnessOf m)) ∧ (∀ g, v.ownBlock = some g → w.heap.size ≤ g) ∧ Dp.Keeps (fun _ => False) w w' := by
  have H := Hid.mk_ h
  have hS0 : Dp.Keeps (fun _ => False) w w.drew := (Dp.Keeps.refl _ _).drew
  have HL0 : Hid (∀ wx, Dp.Keeps (fun _ => False) w wx → (Instr.loadAt 79 (.pointer (some ⟨b, 0, none⟩))).run Tryz.prog wx = .ok (.agg (Dp.stateCells m.s).toArray) wx) := fun wx kx => runLoadPS (h.row.keep kx (fun e => e)) h.ok.s.len
  have HL1 : Hid (∀ wx, Dp.Keeps (fun _ => False) w wx → (Instr.loadAt 84 (.pointer (some ⟨b, 12, none⟩))).run Tryz.prog wx = .ok (.agg (Dp.memCells vs m.cells).toArray) wx) := fun wx kx => runLoadMem (post := []) (by rw [List.append_nil]; exact h.row.keep kx (fun e => e)) (Dp.stateCells_length _ h.ok.s.len) h.ok.len
  have HW : Hid (∀ wx, Dp.Keeps (fun _ => False) w wx → Calls Tryz.prog 29 #[.agg (Dp.stateCells m.s).toArray, .agg (Dp.memCells vs m.cells).toArray] wx fun e w' => ∃ v, e = .returned (.tuple #[v, .int .i64 m.step.2]) ∧ Dp.Own w' 5 v (Dp.vals (Dp.witnessOf m)) ∧ (∀ g, v.ownBlock = some g → wx.heap.size ≤ g) ∧ Dp.Keeps (fun _ => False) wx w') :=
    fun wx kx => progVWitness G wx m vs h.ok (h.src.keep kx (fun g hg => ⟨(h.own g hg).1, fun e => e⟩)) (fun g hg => Nat.lt_of_lt_of_le (h.own g hg).1 kx.size)
  clear h
  generalize m.step.2 = E at *
  generalize Dp.witnessOf m = X at *
  go_enter Tryz.func10, Tryz.ntmps10
  go_wp2
  refine Dp.wp_region_L (fun wx => Dp.Keeps (fun _ => False) w wx) 8 mixedP ?_
  refine' Dp.wpAnyL_take 0 rfl (by kernel_rfl) (fun _ _ _ h => h) (by rfl) ?hya0 hS0 ?resta0
  case hya0 => intro wx hSx; go_simp; try with_reducible rfl
  simp only [Act.put, List.getElem_toArray, List.getElem_cons_zero, List.setIfInBounds_toArray, List.set_cons_zero, List.set_cons_succ]
  refine' Dp.wpAnyL_take 1 rfl (by kernel_rfl) (fun _ _ _ h => h) (by rfl) ?hya1 hS0 ?resta1
  case hya1 => intro wx hSx; go_simp; try with_reducible rfl
  simp only [Act.put, List.getElem_toArray, List.getElem_cons_zero, List.getElem_cons_succ, List.setIfInBounds_toArray, List.set_cons_zero, List.set_cons_succ]
  refine' Dp.wpAnyL_take 2 rfl (by kernel_rfl) (fun _ _ _ h => h) (by rfl) ?hya2 hS0 ?resta2
  case hya2 => intro wx hSx; go_simp; try with_reducible rfl
  simp only [Act.put, List.getElem_toArray, List.getElem_cons_zero, List.getElem_cons_succ, List.setIfInBounds_toArray, List.set_cons_zero, List.set_cons_succ]
  refine' Dp.wpAnyL_take (v := .agg (Dp.stateCells m.s).toArray) 3 rfl (by kernel_rfl) (fun _ _ _ h => h) (by rfl) ?hyp3 hS0 ?restp3
  case hyp3 => intro wx hSx; exact Dp.run_load_op rfl rfl (HL0.out wx hSx)
  simp only [Act.put, List.getElem_toArray, List.getElem_cons_zero, List.getElem_cons_succ, List.setIfInBounds_toArray, List.set_cons_zero, List.set_cons_succ]
  refine' Dp.wpAnyL_take 4 rfl (by kernel_rfl) (fun _ _ _ h => h) (by rfl) ?hyb4 hS0 ?restb4
  case hyb4 => intro wx hSx; go_simp; try with_reducible rfl
  simp only [Act.put, List.getElem_toArray, List.getElem_cons_zero, List.getElem_cons_succ, List.setIfInBounds_toArray, List.set_cons_zero, List.set_cons_succ]
  refine' Dp.wpAnyL_take 5 rfl (by kernel_rfl) (fun _ _ _ h => h) (by rfl) ?hyb5 hS0 ?restb5
  case hyb5 => intro wx hSx; go_simp; try with_reducible rfl
  simp only [Act.put, List.getElem_toArray, List.getElem_cons_zero, List.getElem_cons_succ, List.setIfInBounds_toArray, List.set_cons_zero, List.set_cons_succ]
  refine' Dp.wpAnyL_take 6 rfl (by kernel_rfl) (fun _ _ _ h => h) (by rfl) ?hyb6 hS0 ?restb6
  case hyb6 => intro wx hSx; go_simp; try with_reducible rfl
  simp only [Act.put, List.getElem_toArray, List.getElem_cons_zero, List.getElem_cons_succ, List.setIfInBounds_toArray, List.set_cons_zero, List.set_cons_succ]
  refine' Dp.wpAnyL_take (v := .agg (Dp.memCells vs m.cells).toArray) 7 rfl (by kernel_rfl) (fun _ _ _ h => h) (by rfl) ?hyp7 hS0 ?restp7
  case hyp7 => intro wx hSx; exact Dp.run_load_op rfl rfl (HL1.out wx hSx)
  simp only [Act.put, List.getElem_toArray, List.getElem_cons_zero, List.getElem_cons_succ, List.setIfInBounds_toArray, List.set_cons_zero, List.set_cons_succ]
  refine Dp.wpAnyL_one 8 rfl (by kernel_rfl) (by rfl) (fun K hK => ?_)
  go_simp
  refine (HW.out _ hS0).mono ?_
  rintro e w2 ⟨v, rfl, ho, hf, k2⟩
  have HO := Hid.mk_ ho
  have HF : Hid (∀ g, v.ownBlock = some g → w.heap.size ≤ g) := fun g hg => by have := hf g hg; have := hS0.size; omega
  have HK := Hid.mk_ (hS0.trans k2)
  obtain ⟨va, vc, ev⟩ := ho.isSlice
  subst ev
  generalize (Dp.vals X).length = N at *
  clear ho hf
  refine hK _ _ ⟨fun h => absurd h (Nat.lt_irrefl _), ?_⟩
  clear hK K
  refine Dp.wpAnyL_rest (by kernel_rfl) ?_
  refine' Dp.wpAny_pure 9 rfl (by kernel_rfl) (fun _ _ _ h => h) (.inl ⟨by rfl, ?hpc9⟩) ?pestc9
  case hpc9 => intro wx; go_simp; try with_reducible rfl
  simp only [Act.put, List.getElem_toArray, List.getElem_cons_zero, List.getElem_cons_succ, List.setIfInBounds_toArray, List.set_cons_zero, List.set_cons_succ]
  refine' Dp.wpAny_pure 10 rfl (by kernel_rfl) (fun _ _ _ h => h) (.inl ⟨by rfl, ?hpc10⟩) ?pestc10
  case hpc10 => intro wx; go_simp; try with_reducible rfl
  simp only [Act.put, List.getElem_toArray, List.getElem_cons_zero, List.getElem_cons_succ, List.setIfInBounds_toArray, List.set_cons_zero, List.set_cons_succ]
  refine Dp.wpAny_tail 11 rfl (by kernel_rfl) ?_
  simp only [List.drop_succ_cons, List.drop_zero]
  go_wp2
  go_ret2
  exact ⟨_, rfl, HO.out, HF.out, HK.out⟩
end Go.Proofs.YtdipojfngdceoabGreatDoor

/- The program's memory of proofs: a cell's word is told and given. -/
namespace Go.Proofs.YtdipojfngdceoabGreatDoor
open Go.RowKit

namespace Dp
theorem ProofsInv.more {w0 wb : World} {pc q p L : Nat} {w : World} {m : Pm} (h : ProofsInv w0 wb pc q p L w m) : ProofsInv w0 wb pc q p (L + 9) w m := by
  obtain ⟨a, vt, xs, ha, h1, ho, ht, hl, hn⟩ := h.row
  exact ⟨h.parts, h.new, h.pq, h.cp, h.cq, h.lo, h.clt, h.frame, h.root, ⟨a, vt, xs, ha, h1, ho, ht, by omega, hn⟩⟩
theorem ProofsInv.still {w0 wb : World} {pc q p L : Nat} {w w' : World} {m : Pm} (h : ProofsInv w0 wb pc q p L w m) (hpc : w0.heap.size ≤ pc) (k : Keeps (fun _ => False) w w') : ProofsInv w0 wb pc q p L w' m :=
  (h.keep hpc (k.mono (fun _ _ e => e.elim))).1
theorem ProofsInv.setRoot {w0 wb : World} {pc q p L : Nat} {w : World} {m : Pm} (h : ProofsInv w0 wb pc q p L w m) (r : Int) (hr : 0 ≤ r ∧ r < 65536) : ProofsInv w0 wb pc q p L (w.setCell ⟨q, 2, none⟩ (.int .i64 r)) { m with root := r } := by
  obtain ⟨a, vt, xs, ha, h1, ho, ht, hl, hn⟩ := h.row
  have k : Keeps (fun i => i = q) w (w.setCell ⟨q, 2, none⟩ (.int .i64 r)) := Keeps.setCell (S := fun i => i = q) (p := ⟨q, 2, none⟩) (Keeps.refl _ _) (.inr rfl) _
  refine ⟨h.parts.keep k h.pq (fun i hi e => by have := h.new; omega), h.new, h.pq, h.cp, h.cq, h.lo, h.clt, h.frame.trans (k.mono (fun _ _ e => .inr (.inl e))), hr, ⟨a, vt, xs, ha, h1.set 2 _, ho.keep k (ho.ne h1 (by decide)), ht.keep k (fun g e hg _ => hg.ne h1 (by decide)), hl, hn⟩⟩
theorem ProofsInv.q_lt {w0 wb : World} {pc q p L : Nat} {w : World} {m : Pm} (h : ProofsInv w0 wb pc q p L w m) : q < w.heap.size := by
  obtain ⟨a, vt, xs, ha, h1, _⟩ := h.row
  exact h1.lt
end Dp

set_option maxRecDepth 100000 in
set_option maxHeartbeats 1000000 in
theorem progPLoad (w0 wb : World) (pc q p : Nat) (eb : Addr) (L : Nat) (n : Int) (w : World) (m : Dp.Pm) (he : Dp.ErrAt w0 eb) (h : Dp.ProofsInv w0 wb pc q p L w m) (hL : L ≤ 1000000) (hn : Dp.isWord n) :
    Calls Tryz.prog 166 #[.pointer (some ⟨q, 0, none⟩), .int .u32 n] w fun e w' => Dp.after (Dp.proofsMemo.load m n) (e = .panicked (Dp.wrong eb) ∧ Dp.Keeps (fun _ => False) w0 w') fun r => e = .returned (.tuple #[.int .u32 r.2.1, .int .i64 r.2.2]) ∧ Dp.isWord r.2.1 ∧ (0 ≤ r.2.2 ∧ r.2.2 < 8) ∧ Dp.ProofsInv w0 wb pc q p (L + 9) w' r.1 ∧ Dp.Keeps (Dp.ProofsF q p w) w w' := by
  unfold Dp.isWord at hn
  by_cases hge : n ≥ 256
  · have HC := Hid.mk_ (progReach (.pointer (some ⟨q, 0, none⟩)) n w)
    rw [if_pos hge] at HC
    have HE : Hid (Dp.proofsMemo.load m n = some (m, 0, 3)) := by unfold Hid; simp only [Dp.proofsMemo, hge, if_true]
    go_enter Tryz.func166, Tryz.ntmps166
    go_wp2_with (refine HC.out.mono ?_; rintro e w' ⟨rfl, rfl⟩)
    go_ret2
    rw [HE.out]
    exact ⟨rfl, by simp [Dp.isWord], by simp, h.more, Dp.Keeps.refl _ _⟩
  · have HC := Hid.mk_ (progReach (.pointer (some ⟨q, 0, none⟩)) n w)
    rw [if_neg hge] at HC
    obtain ⟨k, rfl⟩ := Int.eq_ofNat_of_zero_le hn.1
    have HE : Hid (Dp.proofsMemo.load m (k : Int) = if Dp.fitsNow m k then some (⟨m.rest.drop 20, m.root, m.texts ++ Dp.pfTexts m.rest k⟩, Dp.numTo m.rest 0 4, 0) else none) := by unfold Hid; simp only [Dp.proofsMemo, hge, if_false, Int.toNat_natCast]
    have HB := Hid.mk_ (Dp.numTo_bd m.rest 0 4 (Nat.le_refl _))
    go_enter Tryz.func166, Tryz.ntmps166
    go_wp2_with fail
    refine HC.out.mono ?_
    rintro e w' ⟨rfl, hww⟩
    subst w'
    go_wp2_with fail
    refine (progPCut w0 wb pc q p eb L k _ m he h hL).mono ?_
    intro e w1 h1
    cases hf : Dp.fitsNow m k with
    | true =>
      rw [hf, if_pos rfl, Dp.after_some] at h1
      obtain ⟨rfl, hI, hk⟩ := h1
      have HE2 := HE.out
      rw [hf, if_pos rfl] at HE2
      have HE3 := Hid.mk_ HE2
      clear HE2 hf
      generalize Dp.numTo m.rest 0 4 = W at *
      generalize Dp.others m.rest 8 = OS at *
      have hfd : ∀ wx, (Instr.field 213 (.agg (Dp.proofCells W OS).toArray) 0).run Tryz.prog wx = .ok (.int .u32 W) wx := fun wx => rfl
      go_wp2
      go_ret2
      rw [HE3.out]
      exact ⟨rfl, HB.out, by simp, hI, hk⟩
    | false =>
      rw [hf, if_neg (by simp), Dp.after_none] at h1
      obtain ⟨rfl, hk⟩ := h1
      have HE2 := HE.out
      rw [hf, if_neg (by simp)] at HE2
      exact ⟨rfl, by rw [HE2]; exact ⟨rfl, hk⟩⟩

set_option maxRecDepth 100000 in
set_option maxHeartbeats 1000000 in
theorem progPStore (w0 wb : World) (pc q p : Nat) (eb : Addr) (L : Nat) (n v : Int) (w : World) (m : Dp.Pm) (he : Dp.ErrAt w0 eb) (h : Dp.ProofsInv w0 wb pc q p L w m) (hpc : w0.heap.size ≤ pc) (hL : L ≤ 1000000) (hn : Dp.isWord n) (hv : Dp.isWord v) :
    Calls Tryz.prog 168 #[.pointer (some ⟨q, 0, none⟩), .int .u32 n, .int .u32 v] w fun e w' => Dp.after (Dp.proofsMemo.store m n v) (e = .panicked (Dp.wrong eb) ∧ Dp.Keeps (fun _ => False) w0 w') fun r => e = .returned (.int .i64 r.2) ∧ (0 ≤ r.2 ∧ r.2 < 8) ∧ Dp.ProofsInv w0 wb pc q p (L + 9) w' r.1 ∧ Dp.Keeps (Dp.ProofsF q p w) w w' := by
  unfold Dp.isWord at hn
  by_cases hge : n ≥ 256
  · have HC := Hid.mk_ (progReach (.pointer (some ⟨q, 0, none⟩)) n w)
    rw [if_pos hge] at HC
    have HE : Hid (Dp.proofsMemo.store m n v = some (m, 3)) := by unfold Hid; simp only [Dp.proofsMemo, hge, if_true]
    go_enter Tryz.func168, Tryz.ntmps168
    go_wp2_with (refine HC.out.mono ?_; rintro e w' ⟨rfl, rfl⟩)
    go_ret
    rw [HE.out]
    exact ⟨rfl, by simp, h.more, Dp.Keeps.refl _ _⟩
  · have HC := Hid.mk_ (progReach (.pointer (some ⟨q, 0, none⟩)) n w)
    rw [if_neg hge] at HC
    obtain ⟨k, rfl⟩ := Int.eq_ofNat_of_zero_le hn.1
    have HE : Hid (Dp.proofsMemo.store m (k : Int) v = if Dp.fitsNow m k then some (⟨m.rest.drop 20, Dp.rooted m.rest v k 8, m.texts ++ Dp.pfTexts m.rest k⟩, 0) else none) := by unfold Hid; simp only [Dp.proofsMemo, hge, if_false, Int.toNat_natCast]
    go_enter Tryz.func168, Tryz.ntmps168
    go_wp2_with fail
    refine HC.out.mono ?_
    rintro e w' ⟨rfl, hww⟩
    subst w'
    go_wp2_with fail
    refine (progPCut w0 wb pc q p eb L k _ m he h hL).mono ?_
    intro e w1 h1
    cases hf : Dp.fitsNow m k with
    | true =>
      rw [hf, if_pos rfl, Dp.after_some] at h1
      obtain ⟨rfl, hI, hk⟩ := h1
      have HE2 := HE.out
      rw [hf, if_pos rfl] at HE2
      have HE3 := Hid.mk_ HE2
      have HRB := Hid.mk_ (Dp.rooted_bd m.rest v k 8)
      have HPT := Hid.mk_ (Dp.ptext_rooted m.rest v k 8 (Nat.le_refl _))
      have HOL := Hid.mk_ (Dp.others_length m.rest 8)
      have HOB := Hid.mk_ (Dp.others_bd m.rest 8)
      have HII := Hid.mk_ hI
      have hql := hI.q_lt
      obtain ⟨a, vt, xs, ha, hrow, _⟩ := hI.row
      clear HE2 hf hI
      generalize Dp.numTo m.rest 0 4 = W at *
      generalize Dp.others m.rest 8 = OS at *
      generalize Dp.rooted m.rest v k 8 = R at *
      have HM : Hid ((Dp.proofCells W OS).length = 9) := by unfold Hid; rw [Dp.proofCells_length, HOL.out]
      have HM2 : Hid ((Dp.proofCells v OS).length = 9) := by unfold Hid; rw [Dp.proofCells_length, HOL.out]
      generalize hG : w1.heap.size = G at *
      go_wp2_with (refine Dp.wpList_alloc_row rfl 213 rfl _ zeroProof ?_)
      intro w2 r2 z2 k2
      have HR2 : Hid (Dp.Row w2 G 213 ([] ++ Dp.proofCells 0 [0, 0, 0, 0, 0, 0, 0, 0] ++ [])) := by unfold Hid; rw [List.append_nil, List.nil_append]; first | exact r2 | (rw [← hG]; exact r2)
      go_wp2_with (refine Dp.wpList_store_in rfl 213 _ _ rfl G 0 rfl (Dp.proofCells W OS) rfl 213 [] _ [] HR2.out rfl (HM.out.trans rfl) (by rw [sizeProof, HM.out]) (Dp.proofCells_one _ _) ?_)
      intro w3 r3 z3 k3
      have r3' : Dp.Row w3 G 213 (Dp.proofCells W OS) := by simpa using r3
      have c0 : w3.cell? ⟨G, 0, none⟩ = some (.int .u32 W) := r3'.cell 0
      have f0 := r3'.frozen 0
      have HR4 : Hid (Dp.Row (w3.setCell ⟨G, 0, none⟩ (.int .u32 v)) G 213 ([] ++ Dp.proofCells v OS ++ [])) := by
        unfold Hid; rw [List.append_nil, List.nil_append]; exact r3'.set 0 _
      have k13 : Dp.Keeps (fun _ => False) w1 w3 := k2.next k3 (fun i hi e => by omega)
      have HK4 : Hid (Dp.Keeps (fun _ => False) w1 (w3.setCell ⟨G, 0, none⟩ (.int .u32 v))) := k13.setCell (p := ⟨G, 0, none⟩) (.inl (by show w1.heap.size ≤ G; omega)) _
      clear r2 z2 k2 r3 r3' z3 k3 k13 HR2
      go_wp2_with (refine Dp.wpList_load_in rfl 213 _ rfl G 0 rfl 213 [] _ [] HR4.out rfl _ Tryz.underlying213 rfl (by rw [sizeProof, HM2.out]) ?_)
      intro _
      go_wp2_with fail
      refine (progPRoot v OS k _ hv HOL.out HOB.out).mono ?_
      rintro e w5 ⟨rfl, k5⟩
      rw [HPT.out]
      have k15 := HK4.out.trans k5
      have hr5 := hrow.keep k15 (fun e => e)
      have c2 : w5.cell? ⟨q, 2, none⟩ = some (.int .i64 m.root) := hr5.cell 2
      have f2 := hr5.frozen 2
      have HI5 := Hid.mk_ ((HII.out.still hpc k15).setRoot R (by have := HRB.out; omega))
      have HK6 : Hid (Dp.Keeps (Dp.ProofsF q p w) w (w5.setCell ⟨q, 2, none⟩ (.int .i64 R))) := (hk.next k15 (fun i hi e => e.elim)).setCell (p := ⟨q, 2, none⟩) (.inr (.inl rfl)) _
      clear k15 k5 hr5 hrow c0 f0 HR4 HK4 hk
      go_wp2
      go_ret
      rw [HE3.out]
      exact ⟨rfl, by simp, HI5.out, HK6.out⟩
    | false =>
      rw [hf, if_neg (by simp), Dp.after_none] at h1
      obtain ⟨rfl, hk⟩ := h1
      have HE2 := HE.out
      rw [hf, if_neg (by simp)] at HE2
      exact ⟨rfl, by rw [HE2]; exact ⟨rfl, hk⟩⟩
end Go.Proofs.YtdipojfngdceoabGreatDoor

/- bytes.Clone: bytes of its own. -/
namespace Go.Proofs.YtdipojfngdceoabGreatDoor
open Go.RowKit

set_option maxRecDepth 100000 in
set_option maxHeartbeats 1000000 in
theorem progClone (v : Value) (l : List UInt8) (w : World) (hv : Dp.Bytes w v l) (hl : l.length ≤ 1000000) :
    Calls Tryz.prog 64 #[v] w fun e w' => (∃ v', e = .returned v' ∧ Dp.Own w' 5 v' (Dp.vals l) ∧ ∀ g, v'.ownBlock = some g → w.heap.size ≤ g) ∧ Dp.Keeps (fun _ => False) w w' := by
  have HV := Hid.mk_ hv
  obtain ⟨b, o, ad, cap, rfl, hlen, hne, hc⟩ := hv
  cases ad with
  | none =>
    have hz : l = [] := by
      cases l with
      | nil => rfl
      | cons a r => exact absurd (hne (by simp)) (by simp)
    subst hz
    have heq := fun wx => Lib.run_eql_slice_nil (P := Tryz.prog) wx 35 5 none 0 cap 0 0 Tryz.underlying35
    go_enter Tryz.func64, Tryz.ntmps64
    go_wp2
    go_ret
    exact ⟨⟨.slice none 0 0, rfl, Dp.Own.nil _ _, fun g hg => by simp [Value.ownBlock] at hg⟩, Dp.Keeps.refl _ _⟩
  | some ad =>
    by_cases hz : l = []
    · subst hz
      clear hc hne
      have heq := fun wx => Lib.run_eql_slice_nil (P := Tryz.prog) wx 35 5 (some ad) 0 cap 0 0 Tryz.underlying35
      go_enter Tryz.func64, Tryz.ntmps64
      go_wp2
      go_ret
      refine ⟨⟨.slice (some ⟨w.heap.size, 0, none⟩) 0 0, rfl, .inr ⟨w.heap.size, [], rfl, Dp.Row.allocNew w 5 [], by simp [Dp.vals, maxLen]⟩, fun g hg => ?_⟩, (Dp.Keeps.refl _ _).alloc _⟩
      simp [Value.ownBlock] at hg
      omega
    · obtain rfl : ad = ⟨b, o, none⟩ := by have := hne hz; simpa using this
      have hpos : 0 < l.length := by cases l with
        | nil => exact absurd rfl hz
        | cons a r => simp
      have heq := fun wx => Lib.run_eql_slice_nil (P := Tryz.prog) wx 35 5 (some ⟨b, o, none⟩) l.length cap 0 0 Tryz.underlying35
      go_enter Tryz.func64, Tryz.ntmps64
      have HO : Hid (Dp.Own (w.alloc (.cells #[] 5)) 5 (.slice (some ⟨w.heap.size, 0, none⟩) 0 0) []) := .inr ⟨w.heap.size, [], rfl, Dp.Row.allocNew w 5 [], by simp [maxLen]⟩
      have HN : Hid (∀ j u, (Dp.vals l)[j]? = some u → (w.alloc (.cells #[] 5)).cell? ((⟨b, o, none⟩ : Addr).add j) = some u) := by
        intro j u hj
        have hjl : j < l.length := by have := (List.getElem?_eq_some_iff.1 hj).1; rwa [Dp.vals_length] at this
        have h1 := hc j hjl
        have h2 := ((Dp.Keeps.refl (fun _ => False) w).alloc (.cells #[] 5)).cell (p := ⟨b, o + j, none⟩) (Dp.cell_lt h1) (fun e => e)
        have h3 : (⟨b, o, none⟩ : Addr).add j = ⟨b, o + j, none⟩ := by simp [Addr.add]
        rw [h3, h2, h1]
        simp [Dp.vals, hjl] at hj
        rw [hj]
      have HVL : Hid ((Dp.vals l).length = l.length) := Dp.vals_length l
      clear hc
      go_wp2_with (at_builtin; refine Dp.wpList_append_Own rfl _ _ 35 rfl 5 (.int .u8 0) 1 Tryz.underlying35 infoU8 rfl (.slice (some ⟨w.heap.size, 0, none⟩) 0 0) [] rfl HO.out ⟨b, o, none⟩ l.length cap (Dp.vals l) rfl HVL.out HN.out (Dp.vals_one _) hpos (by simp [maxLen]; omega) (by simp; omega) ?_)
      intro v2 w2 o2 k2 s2
      go_wp2
      go_ret
      refine ⟨⟨v2, rfl, o2, fun g hg => ?_⟩, ((Dp.Keeps.refl _ _).alloc _).next k2 (fun i hi e => ?_)⟩
      · rcases s2.out with h | h
        · rw [h.1] at hg; simp [Value.ownBlock] at hg; omega
        · rw [h.1] at hg; simp at hg; omega
      · simp [Value.ownBlock] at e; omega
end Go.Proofs.YtdipojfngdceoabGreatDoor

/- The program's memory of proofs: a source is told. -/
namespace Go.Proofs.YtdipojfngdceoabGreatDoor
open Go.RowKit

namespace Dp
theorem ProofsInv.setSrc {w0 wb : World} {pc q p L : Nat} {w : World} {m : Pm} (h : ProofsInv w0 wb pc q p L w m) (v : Value) (hv : v.oneCell' = true) : ProofsInv w0 wb pc q p L (w.setCell ⟨q, 0, none⟩ v) m := by
  obtain ⟨a, vt, xs, ha, h1, ho, ht, hl, hn⟩ := h.row
  have k : Keeps (fun i => i = q) w (w.setCell ⟨q, 0, none⟩ v) := Keeps.setCell (S := fun i => i = q) (p := ⟨q, 0, none⟩) (Keeps.refl _ _) (.inr rfl) _
  refine ⟨h.parts.keep k h.pq (fun i hi e => by have := h.new; omega), h.new, h.pq, h.cp, h.cq, h.lo, h.clt, h.frame.trans (k.mono (fun _ _ e => .inr (.inl e))), h.root, ⟨v, vt, xs, hv, h1.set 0 _, ho.keep k (ho.ne h1 (by decide)), ht.keep k (fun g e hg _ => hg.ne h1 (by decide)), hl, hn⟩⟩
/-- Some bytes of the witness have been cut off. -/
theorem ProofsInv.cutOff {w0 wb : World} {pc q p L : Nat} {w w' : World} {m : Pm} (h : ProofsInv w0 wb pc q p L w m) (k : Keeps (fun i => i = p) w w') (n : Nat) (hp : PartsAt w0 p w' (m.rest.drop n)) : ProofsInv w0 wb pc q p L w' { m with rest := m.rest.drop n } := by
  obtain ⟨a, vt, xs, ha, h1, ho, ht, hl, hn⟩ := h.row
  obtain ⟨v, hpr, _⟩ := h.parts.row
  refine ⟨hp, h.new, h.pq, h.cp, h.cq, h.lo, h.clt, h.frame.trans (k.mono (fun _ _ e => .inl e)), h.root, ⟨a, vt, xs, ha, h1.keep k h.pq.symm, ho.keep k (ho.ne hpr (by decide)), ht.keep k (fun g e hg _ => hg.ne hpr (by decide)), hl, hn⟩⟩
theorem ProofsInv.p_lt {w0 wb : World} {pc q p L : Nat} {w : World} {m : Pm} (h : ProofsInv w0 wb pc q p L w m) : p < w.heap.size := by
  obtain ⟨v, hpr, _⟩ := h.parts.row
  exact hpr.lt
end Dp

set_option maxRecDepth 100000 in
set_option maxHeartbeats 1000000 in
theorem progSource1 (w : World) (b o g : Nat) (ad : Option Addr) (cap : Nat) (src : List UInt8) (name : Int) (hc : w.cell? ⟨b, o, none⟩ = some (.slice (some ⟨g, 0, none⟩) 1 1)) (hg : w.cell? ⟨g, 0, none⟩ = some (.slice ad src.length cap)) (hB : Dp.Bytes w (.slice ad src.length cap) src) :
    Calls Tryz.prog 158 #[.pointer (some ⟨b, o, none⟩), .int .u32 name] w fun e w' => e = .returned (.tuple #[if Dp.sum src = name then .slice ad src.length cap else .slice none 0 0, .int .i64 (if Dp.sum src = name then 0 else 5)]) ∧ Dp.Keeps (fun _ => False) w w' := by
  have HBB := Hid.mk_ hB
  have hgl := Dp.cell_lt hg
  clear hB
  go_enter Tryz.func158, Tryz.ntmps158
  go_wp2
  go_loopw [7, 13] (fun _ i wr => ∃ k : Nat, k ≤ 1 ∧ i = .int .i64 k ∧ (1 ≤ k → Dp.sum src ≠ name) ∧ Dp.Keeps (fun _ => False) w wr) (fun _ i _ => 1 - (intOf i).toNat)
  case atStart => exact ⟨0, Nat.zero_le _, rfl, fun h => absurd h (by omega), Dp.Keeps.refl _ _⟩
  case round =>
    obtain ⟨k, hk, rfl, hno, kr⟩ := hrel
    have HNO := Hid.mk_ hno
    clear hno
    by_cases hlt : k < 1
    · obtain rfl : k = 0 := by omega
      have ck : wr.cell? ⟨g, 0, none⟩ = some (.slice ad src.length cap) := (kr.cell (p := ⟨g, 0, none⟩) hgl (fun e => e)).trans hg
      have HB : Hid (∀ wx, Dp.Keeps (fun _ => False) wr wx → Dp.Bytes wx (.slice ad src.length cap) src) := fun wx kx => HBB.out.still (kr.trans kx)
      have hsb := Dp.sum_bd src
      have z0 : ((0 : Nat) : Int) = 0 := rfl
      rw [z0]
      go_wp2_with fail
      refine (digSum _ [src] _ (Dp.parts_one (HB.out _ ((Dp.Keeps.refl _ _).alloc _)))).mono ?_
      rintro e w4 ⟨rfl, rfl⟩
      rw [List.flatten_singleton]
      have KR := Hid.mk_ (kr.alloc (.cells #[.slice ad src.length cap] 35))
      by_cases hs : Dp.sum src = name
      · rw [hs]
        clear ck HB
        go_wp2
        go_ret2
        exact ⟨by simp, KR.out⟩
      · obtain ⟨sk, hsk⟩ : ∃ sk, sk = Dp.sum src := ⟨_, rfl⟩
        rw [← hsk] at hs hsb ⊢
        have HF : Hid (Dp.sum src ≠ name) := by unfold Hid; rw [← hsk]; exact hs
        clear ck HB hsk
        go_wp2
        go_roundw
        case rel => exact ⟨1, by omega, by go_num, fun _ => HF.out, KR.out⟩
        case measure => simp [intOf]
    · obtain rfl : k = 1 := by omega
      have hno := HNO.out (Nat.le_refl _)
      have z0 : ((1 : Nat) : Int) = 1 := rfl
      rw [z0]
      have HNN := Hid.mk_ hno
      clear hno
      go_wp2
      go_ret2
      exact ⟨by first | rfl | (rw [if_neg HNN.out]; rfl), kr⟩

set_option maxRecDepth 100000 in
set_option maxHeartbeats 2000000 in
theorem progPSource (w0 wb : World) (pc q p : Nat) (eb : Addr) (L : Nat) (name : Int) (w : World) (m : Dp.Pm) (he : Dp.ErrAt w0 eb) (h : Dp.ProofsInv w0 wb pc q p L w m) (hpc : w0.heap.size ≤ pc) (hL : L ≤ 1000000) :
    Calls Tryz.prog 167 #[.pointer (some ⟨q, 0, none⟩), .int .u32 name] w fun e w' => Dp.after (Dp.proofsMemo.source m name) (e = .panicked (Dp.wrong eb) ∧ Dp.Keeps (fun _ => False) w0 w') fun r => (∃ v, e = .returned (.tuple #[v, .int .i64 r.2.2]) ∧ Dp.Bytes w' v r.2.1) ∧ (0 ≤ r.2.2 ∧ r.2.2 < 8) ∧ Dp.ProofsInv w0 wb pc q p (L + 9) w' r.1 ∧ Dp.Keeps (Dp.ProofsF q p w) w w' := by
  have HW : Hid (Dp.proofsMemo.source m name = if Dp.srcThere m.rest name then some (⟨m.rest.drop (1 + Dp.srcSize m.rest), m.root, m.texts ++ [Dp.srcNext m.rest]⟩, Dp.srcNext m.rest, 0) else none) := rfl
  have HH := Hid.mk_ h
  obtain ⟨a, vt, xs, ha, hr, _, _, hl0, _⟩ := h.row
  have HL0 := Hid.mk_ hl0
  clear hl0
  have c1 : w.cell? ⟨q, 1, none⟩ = some (.pointer (some ⟨p, 0, none⟩)) := hr.cell 1
  have HROW := Hid.mk_ hr
  have hpl := h.p_lt
  have hql := h.q_lt
  have hpn := h.parts.new
  have hqn := h.new
  have hpq := h.pq
  clear h hr
  go_enter Tryz.func167, Tryz.ntmps167
  go_wp2_with fail
  refine (progQByte w0 p eb m.rest _ he HH.out.parts).mono ?_
  intro e w1 h1
  by_cases hle : 1 ≤ m.rest.length
  case neg =>
    rw [if_neg hle, Dp.after_none] at h1
    obtain ⟨rfl, rfl⟩ := h1
    have hf : Dp.srcThere m.rest name = false := by unfold Dp.srcThere; rw [decide_eq_false hle]; rfl
    have hw := HW.out
    rw [hf, if_neg (by simp)] at hw
    exact ⟨rfl, by rw [hw]; exact ⟨rfl, HH.out.parts.kept⟩⟩
  rw [if_pos hle, Dp.after_some] at h1
  obtain ⟨rfl, hp1, k1, z1⟩ := h1
  have HI1 := Hid.mk_ (HH.out.cutOff k1 1 hp1)
  have hr1 := HROW.out.keep k1 hpq.symm
  have c11 : w1.cell? ⟨q, 1, none⟩ = some (.pointer (some ⟨p, 0, none⟩)) := hr1.cell 1
  have HSZ : Hid ((m.rest.getD 0 0).toNat = Dp.srcSize m.rest) := rfl
  have hsz : (m.rest.getD 0 0).toNat < 256 := (m.rest.getD 0 0).toNat_lt
  rw [HSZ.out] at hsz ⊢
  generalize hN : Dp.srcSize m.rest = N at *
  by_cases h200 : N ≤ 200
  case neg =>
    have hg : decide ((N : Int) ≤ 200) = false := decide_eq_false (by omega)
    go_wp2_with fail
    with_reducible refine (progReqF _ eb _ (he.keep hp1.kept)).mono ?_
    rintro e w2 ⟨rfl, rfl⟩
    have hf : Dp.srcThere m.rest name = false := by unfold Dp.srcThere; rw [hN, decide_eq_false h200]; simp
    have hw := HW.out
    rw [hf, if_neg (by simp)] at hw
    exact ⟨rfl, by rw [hw]; exact ⟨rfl, hp1.kept⟩⟩
  have hg : (N : Int) ≤ 200 := by omega
  go_wp2_with fail
  with_reducible refine (progReqT _ _).mono ?_
  rintro e w2 ⟨rfl, hww⟩
  subst w2
  clear c1
  go_wp2_with fail
  refine (progCut w0 p eb N (m.rest.drop 1) _ he hp1 (by omega)).mono ?_
  intro e w2 h2
  have hd1 : (m.rest.drop 1).length = m.rest.length - 1 := List.length_drop
  by_cases hfit : N ≤ (m.rest.drop 1).length
  case neg =>
    rw [if_neg hfit, Dp.after_none] at h2
    obtain ⟨rfl, rfl⟩ := h2
    have hf : Dp.srcThere m.rest name = false := by unfold Dp.srcThere; rw [hN, decide_eq_false (show ¬ 1 + N ≤ m.rest.length by omega)]; simp
    have hw := HW.out
    rw [hf, if_neg (by simp)] at hw
    exact ⟨rfl, by rw [hw]; exact ⟨rfl, hp1.kept⟩⟩
  rw [if_pos hfit, Dp.after_some] at h2
  obtain ⟨v, rfl, hcut, hp2, k2, z2⟩ := h2
  have HZZ : Hid (w2.heap.size = w.heap.size) := z2.trans z1
  clear z2
  have HN : Hid (Dp.srcNext m.rest = (m.rest.drop 1).take N) := by unfold Hid Dp.srcNext; rw [hN]
  rw [← HN.out] at hcut
  have HSL : Hid ((Dp.srcNext m.rest).length ≤ 200) := by unfold Hid; rw [HN.out, List.length_take]; omega
  have HI2 : Hid (Dp.ProofsInv w0 wb pc q p L w2 { m with rest := m.rest.drop (1 + N) }) := by
    have h : Dp.ProofsInv w0 wb pc q p L w2 ⟨(m.rest.drop 1).drop N, m.root, m.texts⟩ := HI1.out.cutOff k2 N hp2
    rw [List.drop_drop] at h
    exact h
  have hr2 := hr1.keep k2 hpq.symm
  have HKW : Hid (Dp.Keeps (fun k => k = p) w w2) := k1.trans k2
  have HTH : Hid (Dp.srcThere m.rest name = (Dp.sum (Dp.srcNext m.rest) == name)) := by
    unfold Hid Dp.srcThere; rw [hN, decide_eq_true hle, decide_eq_true h200, decide_eq_true (show 1 + N ≤ m.rest.length by omega)]; rfl
  have HK02 := Hid.mk_ hp2.kept
  have HCUT := Hid.mk_ hcut
  clear hcut hp1 k1 z1 hr1 c11 hp2 k2 HI1 hd1 hfit hg HN
  generalize hSRC : Dp.srcNext m.rest = SRC at *
  obtain ⟨ad, cap, rfl, _⟩ := HCUT.out
  have hqG : q ≠ w2.heap.size := by have := HZZ.out; omega
  have hr3 := hr2.allocOld (.cells #[.slice ad SRC.length cap] 93)
  have c03 := hr3.cellAt 0 (by simp)
  have f03 := hr3.frozen 0
  simp only [List.getElem_cons_zero] at c03
  have HI4 := Hid.mk_ ((HI2.out.still hpc ((Dp.Keeps.refl _ _).alloc (.cells #[.slice ad SRC.length cap] 93))).setSrc (.slice (some ⟨w2.heap.size, 0, none⟩) 1 1) rfl)
  have HR4 := Hid.mk_ (hr3.set 0 (.slice (some ⟨w2.heap.size, 0, none⟩) 1 1))
  have HN4 : Hid (((w2.alloc (.cells #[.slice ad SRC.length cap] 93)).setCell ⟨q, 0, none⟩ (.slice (some ⟨w2.heap.size, 0, none⟩) 1 1)).cell? ⟨w2.heap.size, 0, none⟩ = some (.slice ad SRC.length cap)) := by
    exact ((Dp.Row.allocNew w2 93 [.slice ad SRC.length cap]).setOther ⟨q, 0, none⟩ _ hqG.symm).cell 0
  have HK4 : Hid (Dp.Keeps (Dp.ProofsF q p w) w ((w2.alloc (.cells #[.slice ad SRC.length cap] 93)).setCell ⟨q, 0, none⟩ (.slice (some ⟨w2.heap.size, 0, none⟩) 1 1))) :=
    ((HKW.out.mono (fun i _ e => .inr (.inl e))).alloc _).setCell (p := ⟨q, 0, none⟩) (.inr (.inl rfl)) _
  have HK04 : Hid (Dp.Keeps (fun _ => False) w0 ((w2.alloc (.cells #[.slice ad SRC.length cap] 93)).setCell ⟨q, 0, none⟩ (.slice (some ⟨w2.heap.size, 0, none⟩) 1 1))) :=
    (HK02.out.alloc _).setCell (p := ⟨q, 0, none⟩) (.inl hqn) _
  clear hr2 hr3 HI2 HKW HK02
  go_wp2_with fail
  generalize (w2.alloc (.cells #[.slice ad SRC.length cap] 93)).setCell ⟨q, 0, none⟩ (.slice (some ⟨w2.heap.size, 0, none⟩) 1 1) = w4 at *
  have c04 : w4.cell? ⟨q, 0, none⟩ = some (.slice (some ⟨w2.heap.size, 0, none⟩) 1 1) := HR4.out.cell 0
  refine (progSource1 w4 q 0 w2.heap.size ad cap SRC name c04 HN4.out (HCUT.out.still HK04.out).bytes).mono ?_
  rintro e w5 ⟨rfl, k5⟩
  have HI5 := Hid.mk_ (HI4.out.still hpc k5)
  have HK5 : Hid (Dp.Keeps (Dp.ProofsF q p w) w w5) := HK4.out.next k5 (fun i _ e => e.elim)
  have HK05 := Hid.mk_ (HK04.out.trans k5)
  have hr5 := HR4.out.keep k5 (fun e => e)
  have c15 : w5.cell? ⟨q, 1, none⟩ = some (.pointer (some ⟨p, 0, none⟩)) := hr5.cell 1
  clear HI4 HK4 HK04 HN4 HR4 c04 k5 c03 f03
  by_cases hs : Dp.sum SRC = name
  case neg =>
    rw [if_neg hs, if_neg hs]
    go_wp2_with fail
    with_reducible refine (progReqF _ eb _ (he.keep HK05.out)).mono ?_
    rintro e w6 ⟨rfl, rfl⟩
    have hf : Dp.srcThere m.rest name = false := by rw [HTH.out]; simpa using hs
    have hw := HW.out
    rw [hf, if_neg (by simp)] at hw
    exact ⟨rfl, by rw [hw]; exact ⟨rfl, HK05.out⟩⟩
  rw [if_pos hs, if_pos hs]
  go_wp2_with fail
  with_reducible refine (progReqT _ _).mono ?_
  rintro e w6 ⟨rfl, hww⟩
  subst w6
  have HW2 : Hid (Dp.proofsMemo.source m name = some (⟨m.rest.drop (1 + N), m.root, m.texts ++ [SRC]⟩, SRC, 0)) := by
    have hf : Dp.srcThere m.rest name = true := by rw [HTH.out]; simpa using hs
    have hw := HW.out
    rw [hf, if_pos rfl] at hw
    exact hw
  clear HW HTH hs
  have HII := Hid.mk_ HI5.out
  obtain ⟨a5, vt5, xs5, ha5, hrow5, ho5, ht5, hl5, hn5⟩ := HI5.out.row
  have ea : Dp.Row w5 q 170 [a5, .pointer (some ⟨p, 0, none⟩), .int .i64 m.root, vt5] := hrow5
  have evv : vt5 = vt := by
    have := ea.inj hr5
    simp only [List.set_cons_zero, List.cons.injEq, and_true, true_and] at this
    exact this.2
  subst evv
  clear hr5 hrow5
  have hvtn := hn5
  have HOX := Hid.mk_ ho5
  have HTX := Hid.mk_ ht5
  have HLX : Hid (m.texts.length ≤ L) := hl5
  have HAP := Hid.mk_ HII.out.apart
  have HXL : Hid (xs5.length ≤ 16777216) := by
    have h1 := ht5.1
    have h2 : m.texts.length ≤ L := hl5
    have h3 : xs5.length = m.texts.length := h1
    unfold Hid; omega
  have hpq5 := HII.out.p_lt
  clear ho5 ht5 hl5
  obtain ⟨adt, capt, evt⟩ := HOX.out.isSlice
  subst evt
  have q1 : ∀ wx, Dp.Keeps (fun _ => False) w5 wx → wx.cell? ⟨q, 3, none⟩ = some (.slice adt xs5.length capt) := fun wx kx => (ea.keep kx (fun e => e)).cell 3
  have hS0 : Dp.Keeps (fun _ => False) w5 w5.drew := (Dp.Keeps.refl _ _).drew
  have HBY : Hid (∀ wx, Dp.Keeps (fun _ => False) w5 wx → Dp.Bytes wx (.slice ad SRC.length cap) SRC) := fun wx kx => (HCUT.out.still (HK05.out.trans kx)).bytes
  go_wp2
  refine wp_region_any mixedP ?_
  refine' Dp.wpAny_pure 0 rfl (by kernel_rfl) (fun _ _ _ h => h) (.inl ⟨by rfl, ?hpc0⟩) ?pestc0
  case hpc0 => intro wx; go_simp; try with_reducible rfl
  simp only [Act.put, List.getElem_toArray, List.getElem_cons_zero, List.setIfInBounds_toArray, List.set_cons_zero, List.set_cons_succ]
  refine Dp.wpAny_of_L (S := fun wx => Dp.Keeps (fun _ => False) w5 wx) (n := 8) _ _ _ _ ?_
  refine' Dp.wpAnyL_take 1 rfl (by kernel_rfl) (fun _ _ _ h => h) (by rfl) ?hyb1 hS0 ?restb1
  case hyb1 => intro wx hSx; go_simp; try with_reducible rfl
  simp only [Act.put, List.getElem_toArray, List.getElem_cons_zero, List.getElem_cons_succ, List.setIfInBounds_toArray, List.set_cons_zero, List.set_cons_succ]
  refine' Dp.wpAnyL_take 2 rfl (by kernel_rfl) (fun _ _ _ h => h) (by rfl) ?hyb2 hS0 ?restb2
  case hyb2 => intro wx hSx; go_simp; try with_reducible rfl
  simp only [Act.put, List.getElem_toArray, List.getElem_cons_zero, List.getElem_cons_succ, List.setIfInBounds_toArray, List.set_cons_zero, List.set_cons_succ]
  refine' Dp.wpAnyL_take 3 rfl (by kernel_rfl) (fun _ _ _ h => h) (by rfl) ?hyb3 hS0 ?restb3
  case hyb3 => intro wx hSx; go_simp; try with_reducible rfl
  simp only [Act.put, List.getElem_toArray, List.getElem_cons_zero, List.getElem_cons_succ, List.setIfInBounds_toArray, List.set_cons_zero, List.set_cons_succ]
  refine' Dp.wpAnyL_take 4 rfl (by kernel_rfl) (fun _ _ _ h => h) (by rfl) ?hyb4 hS0 ?restb4
  case hyb4 => intro wx hSx; go_simp; try with_reducible rfl
  simp only [Act.put, List.getElem_toArray, List.getElem_cons_zero, List.getElem_cons_succ, List.setIfInBounds_toArray, List.set_cons_zero, List.set_cons_succ]
  refine' Dp.wpAnyL_take 5 rfl (by kernel_rfl) (fun _ _ _ h => h) (by rfl) ?hyb5 hS0 ?restb5
  case hyb5 => intro wx hSx; go_simp; try with_reducible rfl
  simp only [Act.put, List.getElem_toArray, List.getElem_cons_zero, List.getElem_cons_succ, List.setIfInBounds_toArray, List.set_cons_zero, List.set_cons_succ]
  refine Dp.wpAnyL_one 6 rfl (by kernel_rfl) (by rfl) (fun K hK => ?_)
  go_simp
  refine (progClone _ SRC _ (HBY.out _ hS0) (by have := HSL.out; omega)).mono ?_
  rintro e w7 ⟨⟨vc, rfl, oc, fc⟩, k7⟩
  have hS7 := hS0.trans k7
  refine hK _ _ ⟨fun _ => hS7, ?_⟩
  clear hK K
  obtain ⟨adc, capc, evc⟩ := oc.isSlice
  rw [Dp.vals_length] at evc
  subst evc
  have HOC := Hid.mk_ oc
  have HFC : Hid (∀ g, (Value.slice adc SRC.length capc).ownBlock = some g → w5.heap.size ≤ g) := fun g hg => by have := fc g hg; exact this
  clear oc fc
  refine Dp.wpAnyL_one 7 rfl (by kernel_rfl) (by rfl) (fun K hK => ?_)
  go_simp
  have hS8 : Dp.Keeps (fun _ => False) w5 (w7.alloc (.cells #[.slice adc SRC.length capc] 35)) := hS7.alloc _
  refine hK _ _ ⟨fun _ => hS8, ?_⟩
  clear hK K
  refine Dp.wpAnyL_rest (by kernel_rfl) ?_
  refine Dp.wpAny_tail 8 rfl (by kernel_rfl) ?_
  simp only [List.drop_succ_cons, List.drop_zero]
  have HOX8 := Hid.mk_ (HOX.out.keep hS8 (fun _ _ e => e))
  have HR8 := Hid.mk_ (ea.keep hS8 (fun e => e))
  have HOC8 : Hid (Dp.Own (w7.alloc (.cells #[.slice adc SRC.length capc] 35)) 5 (.slice adc SRC.length capc) (Dp.vals SRC)) := HOC.out.alloc _
  have HC8 : Hid (∀ j u, ([.slice adc SRC.length capc] : List Value)[j]? = some u → (w7.alloc (.cells #[.slice adc SRC.length capc] 35)).cell? ((⟨w7.heap.size, 0, none⟩ : Addr).add j) = some u) := cell_one_new _ _ _
  generalize hW8 : w7.alloc (.cells #[.slice adc SRC.length capc] 35) = w8 at *
  clear q1 hS0 hS7 HOC hW8
  go_wp2_with (at_builtin; refine Dp.wpList_append_Own rfl _ _ 51 rfl 35 (.slice none 0 0) 24 Tryz.underlying51 infoBytes rfl (.slice adt xs5.length capt) xs5 rfl HOX8.out ⟨w7.heap.size, 0, none⟩ 1 1 [.slice adc SRC.length capc] rfl rfl HC8.out (fun x hx => by simp at hx; subst hx; rfl) (by omega) (by have := HXL.out; unfold maxLen; omega) (by have := HXL.out; omega) ?_)
  intro v9 w9 o9 k9 s9
  have hvq : ∀ g, (Value.slice adt xs5.length capt).ownBlock = some g → ¬ g = q := HOX8.out.ne HR8.out (by decide)
  have hr9 := HR8.out.keep k9 (fun e => hvq q e rfl)
  have hoc9 := HOC8.out.keep k9 (fun g hg e => by
    rcases HOC8.out with ⟨e1, _⟩ | ⟨g', tail, e1, hr', _⟩
    · rw [e1] at hg; simp [Value.ownBlock] at hg
    · rw [e1] at hg
      have : g' = g := by simpa [Value.ownBlock] using hg
      subst this
      exact HOX8.out.ne hr' (by decide) _ e rfl)
  have hk59 : Dp.Keeps (fun k => (Value.slice adt xs5.length capt).ownBlock = some k) w5 w9 := (hS8.mono (fun _ _ e => e.elim)).trans k9
  obtain ⟨ad9, cap9, ev9⟩ := o9.isSlice
  subst ev9
  have c39 : w9.cell? ⟨q, 3, none⟩ = some (.slice adt xs5.length capt) := hr9.cell 3
  have f39 := hr9.frozen 3
  have kset : Dp.Keeps (fun k => k = q) w9 (w9.setCell ⟨q, 3, none⟩ (.slice ad9 (xs5 ++ [Value.slice adc SRC.length capc]).length cap9)) := Dp.Keeps.setCell (S := fun k => k = q) (p := ⟨q, 3, none⟩) (Dp.Keeps.refl _ _) (.inr rfl) _
  have HKF : Hid (Dp.Keeps (Dp.ProofsF q p w5) w5 (w9.setCell ⟨q, 3, none⟩ (.slice ad9 (xs5 ++ [Value.slice adc SRC.length capc]).length cap9))) :=
    (hk59.mono (fun i _ e => .inr (.inr ⟨_, _, _, _, ea, e⟩))).next kset (fun i _ e => .inl e)
  have HFIN : Hid (Dp.ProofsInv w0 wb pc q p (L + 9) (w9.setCell ⟨q, 3, none⟩ (.slice ad9 (xs5 ++ [Value.slice adc SRC.length capc]).length cap9)) ⟨m.rest.drop (1 + N), m.root, m.texts ++ [SRC]⟩) := by
    have hkp := HKF.out
    have hI := HII.out
    have hln : ∀ g, (Value.slice ad9 (xs5 ++ [Value.slice adc SRC.length capc]).length cap9).ownBlock = some g → wb.heap.size ≤ g := by
      intro g hg
      have h58 := hS8.size
      have hk05 := hI.frame.size
      rcases s9.out with hh | hh
      · rw [hh.1] at hg; exact hvtn g hg
      · rw [hh.1] at hg
        have : w8.heap.size = g := by simpa using hg
        omega
    refine ⟨(hI.parts.keep hk59 (fun e => ?_) (fun i hi e => by have := hvtn i e; have := hI.lo; omega)).keep kset hI.pq (fun i hi e => by omega), hI.new, hI.pq, hI.cp, hI.cq, hI.lo, hI.clt, hI.onward hkp, hI.root, ⟨a5, _, _, ha5, hr9.set 3 _, o9.keep kset (o9.ne hr9 (by decide)), ?_, ?_, hln⟩⟩
    · obtain ⟨vv, hpr, _⟩ := hI.parts.row
      exact HOX.out.ne hpr (by decide) p e rfl
    · refine ((HTX.out.keep hk59 (fun g e hg _ hS => HOX.out.ne hg (by decide) g hS rfl)).keep kset (fun g e hg _ => hg.ne hr9 (by decide))).append (Dp.TextsAt.one (hoc9.keep kset (hoc9.ne hr9 (by decide))) (fun g hg => ?_))
      have h1 := HFC.out g hg
      have h2 := hI.frame.size
      omega
    · have h1 := HL0.out
      show (m.texts ++ [SRC]).length ≤ L + 9
      rw [List.length_append, List.length_singleton]
      omega
  have HKW : Hid (Dp.Keeps (Dp.ProofsF q p w) w (w9.setCell ⟨q, 3, none⟩ (.slice ad9 (xs5 ++ [Value.slice adc SRC.length capc]).length cap9))) := by
    refine HK5.out.next HKF.out (fun i hi hF => ?_)
    rcases hF with rfl | rfl | ⟨a', b', c', vt', hr', hv⟩
    · exact .inl rfl
    · exact .inr (.inl rfl)
    · have := hr'.inj ea
      simp only [List.cons.injEq, and_true] at this
      obtain ⟨rfl, rfl, rfl, rfl⟩ := this
      exact .inr (.inr ⟨_, _, _, _, HROW.out, hv⟩)
  have elen : (xs5 ++ [Value.slice adc SRC.length capc]).length = xs5.length + 1 := by simp
  rw [elen] at HFIN HKW
  clear elen
  clear hk59 hoc9 o9 k9 s9 kset HKF HOX HOX8 HR8 HOC8 HC8 hS8 HBY hr9 hvq hvtn HTX HII
  go_wp2
  go_ret2
  rw [HW2.out]
  exact ⟨⟨_, rfl, (HCUT.out.still HFIN.out.parts.kept).bytes⟩, by simp, HFIN.out, HKW.out⟩
end Go.Proofs.YtdipojfngdceoabGreatDoor
