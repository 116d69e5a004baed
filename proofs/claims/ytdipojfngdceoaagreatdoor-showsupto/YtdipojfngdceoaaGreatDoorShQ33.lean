/- Steps on the way: ProgProofs, ProgProofs2. -/
import Derived.Test.YtdipojfngdceoaaGreatDoorShQ04
import Derived.Test.YtdipojfngdceoaaGreatDoorShQ09
import Derived.Test.YtdipojfngdceoaaGreatDoorShQ11
import Derived.Test.YtdipojfngdceoaaGreatDoorShQ28
import Derived.Test.YtdipojfngdceoaaGreatDoorShQ30
namespace Go.Proofs.YtdipojfngdceoaaGreatDoor
open Go.RowKit
namespace Dp
def TextsAt (w0 : World) (w : World) (xs : List Value) (ts : List (List UInt8)) : Prop :=
 xs.length = ts.length ∧ ∀ i (h : i < ts.length), ∃ v, xs[i]? = some v ∧ Own w 5 v (vals ts[i]) ∧ ∀ g, v.ownBlock = some g → w0.heap.size ≤ g
theorem TextsAt.nil (w0 : World) (w : World) : TextsAt w0 w [] [] := ⟨rfl, fun i h => absurd h (by simp)⟩
theorem TextsAt.keep {S : Nat → Prop} {w0 w w' : World} {xs : List Value} {ts : List (List UInt8)} (h : TextsAt w0 w xs ts) (k : Keeps S w w') (hS : ∀ g e, Row w g 5 e → w0.heap.size ≤ g → ¬ S g) : TextsAt w0 w' xs ts := by
 refine ⟨h.1, fun i hi => ?_⟩
 obtain ⟨v, h1, h2, h3⟩ := h.2 i hi
 refine ⟨v, h1, h2.keep k (fun g hg => ?_), h3⟩
 rcases h2 with ⟨rfl, _⟩ | ⟨g', tail, rfl, hr, _⟩
 ·simp [Value.ownBlock] at hg
 ·have e : g' = g := by simpa [Value.ownBlock] using hg
  subst e
  exact hS _ _ hr (h3 _ hg)
theorem TextsAt.append {w0 w : World} {xs ys : List Value} {ts us : List (List UInt8)} (h : TextsAt w0 w xs ts) (k : TextsAt w0 w ys us) : TextsAt w0 w (xs ++ ys) (ts ++ us) := by
 refine ⟨by rw [List.length_append, List.length_append, h.1, k.1], fun i hi => ?_⟩
 by_cases hlt : i < ts.length
 ·obtain ⟨v, h1, h2, h3⟩ := h.2 i hlt
  refine ⟨v, by rw [List.getElem?_append_left (by rw [h.1]; exact hlt)]; exact h1, ?_, h3⟩
  rw [List.getElem_append_left hlt]; exact h2
 ·rw [List.length_append] at hi
  obtain ⟨v, h1, h2, h3⟩ := k.2 (i - ts.length) (by omega)
  refine ⟨v, by rw [List.getElem?_append_right (by rw [h.1]; omega), h.1]; exact h1, ?_, h3⟩
  rw [List.getElem_append_right (by omega)]; exact h2
theorem TextsAt.one {w0 w : World} {v : Value} {t : List UInt8} (h : Own w 5 v (vals t)) (hn : ∀ g, v.ownBlock = some g → w0.heap.size ≤ g) : TextsAt w0 w [v] [t] := by
 refine ⟨rfl, fun i hi => ?_⟩
 obtain rfl : i = 0 := by simpa using hi
 exact ⟨v, rfl, h, hn⟩
theorem TextsTo.at {lo : Nat} {w0 w : World} {vs : List Value} {word : Int} {os : List Int} {n : Nat} (h : TextsTo lo w vs word os n 8) (h0 : w0.heap.size ≤ lo) : TextsAt w0 w vs ((List.range 9).map fun j => ptext word os n (8 - j)) := by
 refine ⟨by rw [h.len]; simp, fun i hi => ?_⟩
 have hi9 : i < 9 := by simpa using hi
 obtain ⟨B, h1, h2, h3⟩ := h.at_ (8 - i) (by omega)
 rw [show 8 - (8 - i) = i by omega] at h1
 refine ⟨_, h1, .inr ⟨B, [], ?_, ?_, ?_⟩, fun g hg => ?_⟩
 ·simp [vals_length, ptext_length]
 ·simpa using h2
 ·simp [vals_length, ptext_length, maxLen]
 ·have e : B = g := by simpa [Value.ownBlock] using hg
  omega
structure ProofsInv (w0 wb : World) (pc q p L : Nat) (w : World) (m : Pm) : Prop where
 parts : PartsAt w0 p w m.rest
 new : w0.heap.size ≤ q
 pq : p ≠ q
 cp : pc ≠ p
 cq : pc ≠ q
 lo : w0.heap.size ≤ wb.heap.size
 clt : pc < wb.heap.size
 frame : Keeps (fun k => k = p ∨ k = q ∨ k = pc) wb w
 root : 0 ≤ m.root ∧ m.root < 65536
 row : ∃ a vt xs, a.oneCell' = true ∧ Row w q 184 [a, .pointer (some ⟨p, 0, none⟩), .int .i64 m.root, vt] ∧ Own w 47 vt xs ∧ TextsAt wb w xs m.texts ∧ m.texts.length + m.rest.length ≤ L ∧ ∀ g, vt.ownBlock = some g → wb.heap.size ≤ g
def ProofsF (q p : Nat) (w : World) (k : Nat) : Prop := k = q ∨ k = p ∨ ∃ a b c vt, Row w q 184 [a, b, c, vt] ∧ vt.ownBlock = some k
theorem Row.inj {w : World} {g : Nat} {e : TypeId} {xs ys : List Value} (h : Row w g e xs) (k : Row w g e ys) : xs = ys := by
 unfold Row at h k
 rw [h] at k
 simpa using k
theorem ProofsInv.keep {w0 wb : World} {pc q p L : Nat} {w w' : World} {m : Pm} (h : ProofsInv w0 wb pc q p L w m) (hpc : w0.heap.size ≤ pc) (k : Keeps (fun i => i = pc) w w') : ProofsInv w0 wb pc q p L w' m ∧ ∀ i, ProofsF q p w' i → ProofsF q p w i := by
 obtain ⟨a, vt, xs, ha, hr, ho, ht, hl, hn⟩ := h.row
 have hr' := hr.keep k h.cq.symm
 have hc := h.clt
 refine ⟨⟨h.parts.keep k h.cp.symm (fun i hi e => by omega), h.new, h.pq, h.cp, h.cq, h.lo, h.clt, h.frame.trans (k.mono (fun _ _ e => .inr (.inr e))), h.root, ⟨a, vt, xs, ha, hr', ho.keep k (fun g hg e => by have := hn g hg; omega), ht.keep k (fun g _ _ hg e => by omega), hl, hn⟩⟩, ?_⟩
 rintro i (rfl | rfl | ⟨a', b', c', vt', hr2, hv⟩)
 ·exact .inl rfl
 ·exact .inr (.inl rfl)
 ·have := hr2.inj hr'
  simp only [List.cons.injEq, and_true] at this
  obtain ⟨rfl, rfl, rfl, rfl⟩ := this
  exact .inr (.inr ⟨_, _, _, _, hr, hv⟩)
theorem ProofsInv.foot {w0 wb : World} {pc q p L : Nat} {w : World} {m : Pm} (h : ProofsInv w0 wb pc q p L w m) {i : Nat} (hi : ProofsF q p w i) : i < w.heap.size ∧ i ≠ pc ∧ w0.heap.size ≤ i := by
 obtain ⟨a, vt, xs, ha, hr, ho, ht, hl, hn⟩ := h.row
 obtain ⟨v, hpr, _⟩ := h.parts.row
 have hc := h.clt
 have hl := h.lo
 rcases hi with rfl | rfl | ⟨a', b', c', vt', hr2, hv⟩
 ·exact ⟨hr.lt, h.cq.symm, h.new⟩
 ·exact ⟨hpr.lt, h.cp.symm, h.parts.new⟩
 ·have := hr2.inj hr
  simp only [List.cons.injEq, and_true] at this
  obtain ⟨rfl, rfl, rfl, rfl⟩ := this
  have := hn _ hv
  exact ⟨ho.lt _ hv, by omega, by omega⟩
theorem ProofsInv.onward {w0 wb : World} {pc q p L : Nat} {w w' : World} {m : Pm} (h : ProofsInv w0 wb pc q p L w m) (k : Keeps (ProofsF q p w) w w') : Keeps (fun k => k = p ∨ k = q ∨ k = pc) wb w' := by
 refine h.frame.next k (fun i hi hF => ?_)
 obtain ⟨a, vt, xs, ha, hr, ho, ht, hl, hn⟩ := h.row
 rcases hF with rfl | rfl | ⟨a', b', c', vt', hr2, hv⟩
 ·exact .inr (.inl rfl)
 ·exact .inl rfl
 ·have := hr2.inj hr
  simp only [List.cons.injEq, and_true] at this
  obtain ⟨rfl, rfl, rfl, rfl⟩ := this
  have := hn _ hv
  omega
theorem ProofsInv.apart {w0 wb : World} {pc q p L : Nat} {w : World} {m : Pm} (h : ProofsInv w0 wb pc q p L w m) : ∀ g e, Row w g 5 e → ¬ ProofsF q p w g := by
 intro g e hg hi
 obtain ⟨a, vt, xs, ha, hr, ho, ht, hl, hn⟩ := h.row
 obtain ⟨v, hpr, _⟩ := h.parts.row
 rcases hi with rfl | rfl | ⟨a', b', c', vt', hr2, hv⟩
 ·exact hg.ne hr (by decide) rfl
 ·exact hg.ne hpr (by decide) rfl
 ·have := hr2.inj hr
  simp only [List.cons.injEq, and_true] at this
  obtain ⟨rfl, rfl, rfl, rfl⟩ := this
  exact ho.ne hg (by decide) _ hv rfl
end Dp
set_option maxRecDepth 100000 in
set_option maxHeartbeats 400000 in
theorem progPRoot (word : Int) (os : List Int) (n : Nat) (w : World) (hw : Dp.isWord word) (hol : os.length = 8) (hob : ∀ x ∈ os, 0 ≤ x ∧ x < 65536) :
  Calls Tryz.prog 182 #[.agg (Dp.proofCells word os).toArray, .int .u32 n] w fun e w' => e = .returned (.int .i64 (Dp.sum (Dp.ptext word os n 8))) ∧ Dp.Keeps (fun _ => False) w w' := by
 have HM : Hid ((Dp.proofCells word os).length = 9) := by unfold Hid; rw [Dp.proofCells_length, hol]
 go_enter Tryz.func182, Tryz.ntmps182
 go_wp2_with (refine Dp.wpList_box_row rfl 219 _ rfl (Dp.proofCells word os) rfl ?_)
 intro w1 r1 z1 k1
 have HR : Hid (Dp.Row w1 w.heap.size 219 ([] ++ Dp.proofCells word os ++ [])) := by unfold Hid; rw [List.append_nil, List.nil_append]; exact r1
 clear r1
 go_wp2_with (refine Dp.wpList_load_in rfl 219 _ rfl w.heap.size 0 rfl 219 [] _ [] HR.out rfl _ Tryz.underlying219 rfl (by rw [sizeProof, HM.out]) ?_)
 intro _
 go_wp2_with fail
 refine (progTexts word os n _ hw hol hob).mono ?_
 rintro e w2 ⟨vs, rfl, ht, k2⟩
 obtain ⟨B, h8, rB, _⟩ := ht.at_ 8 (Nat.le_refl _)
 have hx : vs.toArray[0]? = some (.slice (some ⟨B, 0, none⟩) 5 5) := by simpa using h8
 have hidx : ∀ wx, (Instr.index 223 (.agg vs.toArray) (.int .i64 0)).run Tryz.prog wx = .ok (.slice (some ⟨B, 0, none⟩) 5 5) wx := fun wx => Dp.run_index_one wx 223 47 9 _ 0 _ (by rfl) (by rfl) (by rfl) (by omega) hx
 have bt : Dp.Bytes w2 (.slice (some ⟨B, 0, none⟩) 5 5) (Dp.ptext word os n 8) := by
  have h := Dp.bytes_row rB (by rw [Dp.ptext_length]; simp [maxLen]) 5
  rwa [Dp.ptext_length] at h
 have hpt := Dp.parts_just (e := 47) bt
 have HK := Hid.mk_ ((k1.trans k2).alloc (.cells #[.slice (some ⟨B, 0, none⟩) 5 5] 47))
 clear hx h8 rB ht bt k1 k2
 go_wp2_with fail
 refine (digSum _ _ _ hpt).mono ?_
 rintro e w3 ⟨rfl, rfl⟩
 go_wp2
 go_ret
 exact ⟨Dp.ret_int (by simp), HK.out⟩
set_option maxRecDepth 100000 in
set_option maxHeartbeats 2000000 in
theorem progPCut (w0 wb : World) (pc q p : Nat) (eb : Addr) (L n : Nat) (w : World) (m : Dp.Pm) (he : Dp.ErrAt w0 eb) (h : Dp.ProofsInv w0 wb pc q p L w m) (hL : L ≤ 16777216) :
  Calls Tryz.prog 181 #[.pointer (some ⟨q, 0, none⟩), .int .u32 n] w fun e w' => Dp.after (if Dp.fitsNow m n then some () else none) (e = .panicked (Dp.wrong eb) ∧ Dp.Keeps (fun _ => False) w0 w') fun _ => e = .returned (.agg (Dp.proofCells (Dp.numTo m.rest 0 4) (Dp.others m.rest 8)).toArray) ∧ Dp.ProofsInv w0 wb pc q p L w' ⟨m.rest.drop 20, m.root, m.texts ++ Dp.pfTexts m.rest n⟩ ∧ Dp.Keeps (Dp.ProofsF q p w) w w' := by
 have HAP := Hid.mk_ h.apart
 have HON2 : Hid (∀ wx, Dp.Keeps (Dp.ProofsF q p w) w wx → Dp.Keeps (fun k => k = p ∨ k = q ∨ k = pc) wb wx) := fun wx k => h.onward k
 have hlo := h.lo
 have hwb := h.frame.size
 obtain ⟨a, vt, xs, ha, hr, ho, ht0, hl, hn⟩ := h.row
 have HT0 := Hid.mk_ ht0
 have HXE := Hid.mk_ ht0.1
 clear ht0
 have c1 : w.cell? ⟨q, 1, none⟩ = some (.pointer (some ⟨p, 0, none⟩)) := hr.cell 1
 have hql := hr.lt
 have hpl : p < w.heap.size := by obtain ⟨v, h1, _⟩ := h.parts.row; exact h1.lt
 have hpn := h.parts.new
 have hqn := h.new
 have hpq := h.pq
 have hcp := h.cp
 have hcq := h.cq
 have hclt := h.clt
 have HP0 := Hid.mk_ h.parts
 have HRT := Hid.mk_ h.root
 have HKW := Hid.mk_ h.parts.kept
 have HROW := Hid.mk_ hr
 clear h
 go_enter Tryz.func181, Tryz.ntmps181
 go_wp2_with (refine Dp.wpList_alloc_row rfl 219 rfl _ zeroProof ?_)
 intro w1 r1 z1 k1
 have hp1 := HP0.out.keep k1 (fun e => e) (fun _ _ e => e)
 have hr1 := hr.keep k1 (fun e => e)
 have ho1 := ho.keep k1 (fun _ _ e => e)
 have c11 : w1.cell? ⟨q, 1, none⟩ = some (.pointer (some ⟨p, 0, none⟩)) := hr1.cell 1
 clear hr ho c1
 go_wp2_with fail
 refine (progCutProof w0 p eb m.rest _ he hp1).mono ?_
 intro e w2 h2
 by_cases h20 : 20 ≤ m.rest.length
 ·rw [if_pos h20, Dp.after_some] at h2
  obtain ⟨rfl, hp2, k2⟩ := h2
  have hr2 := hr1.keep k2 hpq.symm
  have hvp : ∀ g, vt.ownBlock = some g → ¬ g = p := by
   obtain ⟨v, hv1, _⟩ := hp1.row
   exact ho1.ne hv1 (by decide)
  have hvq : ∀ g, vt.ownBlock = some g → ¬ g = q := ho1.ne hr1 (by decide)
  have ho2 := ho1.keep k2 hvp
  have rr2 := r1.keep k2 (show ¬ w.heap.size = p by omega)
  have kk2 : Dp.Keeps (fun k => k = p) w w2 := (k1.mono (fun _ _ e => e.elim)).trans k2
  have HW := Hid.mk_ (Dp.numTo_bd m.rest 0 4 (Nat.le_refl _))
  have HOL := Hid.mk_ (Dp.others_length m.rest 8)
  have HOB := Hid.mk_ (Dp.others_bd m.rest 8)
  have HPT := Hid.mk_ (Dp.ptext_rooted m.rest (Dp.numTo m.rest 0 4) n 8 (Nat.le_refl _))
  have HFH : Hid (Dp.fitsNow m n = (Dp.rooted m.rest (Dp.numTo m.rest 0 4) n 8 == m.root)) := by unfold Hid Dp.fitsNow; rw [decide_eq_true h20, Bool.true_and]
  have HPF : Hid (Dp.pfTexts m.rest n = (List.range 9).map fun j => Dp.ptext (Dp.numTo m.rest 0 4) (Dp.others m.rest 8) n (8 - j)) := rfl
  clear hr1 ho1 c11 hp1 r1 k1 k2
  generalize hWW : Dp.numTo m.rest 0 4 = W at *
  generalize hOO : Dp.others m.rest 8 = OS at *
  have HM : Hid ((Dp.proofCells W OS).length = 9) := by unfold Hid; rw [Dp.proofCells_length, HOL.out]
  have z2 : w2.heap.size = w2.heap.size := rfl
  generalize hG : w2.heap.size = G at *
  have hGw : w.heap.size < G := by have := rr2.lt; omega
  go_wp2_with (refine Dp.wpList_alloc_row rfl 219 rfl _ zeroProof ?_)
  intro w3 r3 z3 k3
  have r3' : Dp.Row w3 G 219 ([] ++ Dp.proofCells 0 [0, 0, 0, 0, 0, 0, 0, 0] ++ []) := by rw [List.append_nil, List.nil_append]; exact r3
  go_wp2_with (refine Dp.wpList_store_in rfl 219 _ _ rfl G 0 rfl (Dp.proofCells W OS) rfl 219 [] _ [] r3' rfl (HM.out.trans rfl) (by rw [sizeProof, HM.out]) (Dp.proofCells_one _ _) ?_)
  intro w4 r4 z4 k4
  have hqG : ¬ q = G := by omega
  have hpG : ¬ p = G := by omega
  have hvG : ∀ g, vt.ownBlock = some g → ¬ g = G := fun g hg => by have := ho2.lt g hg; omega
  have hr4 := (hr2.keep k3 (fun e => e)).keep k4 hqG
  have ho4 := (ho2.keep k3 (fun _ _ e => e)).keep k4 hvG
  have hp4 := (hp2.keep k3 (fun e => e) (fun _ _ e => e)).keep k4 hpG (fun i hi e => by omega)
  have rr4 := (rr2.keep k3 (fun e => e)).keep k4 (show ¬ w.heap.size = G by omega)
  have kk4 : Dp.Keeps (fun k => k = p) w w4 := (kk2.trans (k3.mono (fun _ _ e => e.elim))).next k4 (fun i hi e => by omega)
  have HR4 : Hid (Dp.Row w4 G 219 ([] ++ Dp.proofCells W OS ++ [])) := by unfold Hid; rw [List.append_nil, List.nil_append]; exact r4
  have z4' : w4.heap.size = G + 1 := by omega
  clear hr2 ho2 hp2 rr2 kk2 k3 k4 r3 r3' z3 z4 z2
  go_wp2_with (refine Dp.wpList_load_in rfl 219 _ rfl G 0 rfl 219 [] _ [] HR4.out rfl _ Tryz.underlying219 rfl (by rw [sizeProof, HM.out]) ?_)
  intro _
  go_wp2_with fail
  refine (progTexts W OS n _ HW.out HOL.out HOB.out).mono ?_
  rintro e w5 ⟨vs, rfl, ht5, k5⟩
  have HV9 := Hid.mk_ ht5.len
  have HV1 := Hid.mk_ ht5.one
  have hr5 := hr4.keep k5 (fun e => e)
  have ho5 := ho4.keep k5 (fun _ _ e => e)
  have hp5 := hp4.keep k5 (fun e => e) (fun _ _ e => e)
  have rr5 := rr4.keep k5 (fun e => e)
  have r5 := r4.keep k5 (fun e => e)
  have kk5 : Dp.Keeps (fun k => k = p) w w5 := kk4.trans (k5.mono (fun _ _ e => e.elim))
  have z5 := k5.size
  have HLO : Hid (wb.heap.size ≤ w4.heap.size) := by unfold Hid; omega
  clear hr4 ho4 hp4 rr4 r4 kk4 k5 HR4
  generalize hH : w5.heap.size = H at *
  go_wp2_with (refine Dp.wpList_alloc_row rfl 223 rfl _ zeroTexts ?_)
  intro w6 r6 z6 k6
  have r6' : Dp.Row w6 H 223 ([] ++ Dp.nilTexts ++ []) := by rw [List.append_nil, List.nil_append]; first | exact r6 | (rw [← hH]; exact r6)
  go_wp2_with (refine Dp.wpList_store_in rfl 223 _ _ rfl H 0 rfl vs rfl 223 [] _ [] r6' rfl (HV9.out.trans rfl) (by rw [sizeTexts, HV9.out]) HV1.out ?_)
  intro w7 r7 z7 k7
  have hvH : ∀ g, vt.ownBlock = some g → ¬ g = H := fun g hg => by have := ho5.lt g hg; omega
  have hr7 := (hr5.keep k6 (fun e => e)).keep k7 (show ¬ q = H by omega)
  have ho7 := (ho5.keep k6 (fun _ _ e => e)).keep k7 hvH
  have hp7 := (hp5.keep k6 (fun e => e) (fun _ _ e => e)).keep k7 (show ¬ p = H by omega) (fun i hi e => by omega)
  have rr7 := (rr5.keep k6 (fun e => e)).keep k7 (show ¬ w.heap.size = H by omega)
  have r7p := (r5.keep k6 (fun e => e)).keep k7 (show ¬ G = H by omega)
  have ht7 := (ht5.keep k6 (fun _ _ _ e => e)).keep k7 (fun B e hB eB => by subst eB; exact absurd rfl (hB.ne r6 (by decide)))
  have kk7 : Dp.Keeps (fun k => k = p) w w7 := (kk5.trans (k6.mono (fun _ _ e => e.elim))).next k7 (fun i hi e => by omega)
  have zz7 : w7.heap.size = H + 1 := by omega
  clear hr5 ho5 hp5 rr5 r5 ht5 kk5 k6 k7 r6 r6' z6 z7
  obtain ⟨B, hB8, rB, _⟩ := ht7.at_ 8 (Nat.le_refl _)
  obtain ⟨adt, capt, evt⟩ := ho7.isSlice
  subst evt
  have q1 : ∀ wx, Dp.Keeps (fun _ => False) w7 wx → wx.cell? ⟨q, 1, none⟩ = some (.pointer (some ⟨p, 0, none⟩)) := fun wx kx => (hr7.keep kx (fun e => e)).cell 1
  have q2 : ∀ wx, Dp.Keeps (fun _ => False) w7 wx → wx.cell? ⟨q, 2, none⟩ = some (.int .i64 m.root) := fun wx kx => (hr7.keep kx (fun e => e)).cell 2
  have q3 : ∀ wx, Dp.Keeps (fun _ => False) w7 wx → wx.cell? ⟨H, 0, none⟩ = some (.slice (some ⟨B, 0, none⟩) 5 5) := fun wx kx => ((r7.keep kx (fun e => e)).cell 0).trans hB8
  have hS0 : Dp.Keeps (fun _ => False) w7 w7.drew := (Dp.Keeps.refl _ _).drew
  have bt : Dp.Bytes w7 (.slice (some ⟨B, 0, none⟩) 5 5) (Dp.ptext W OS n 8) := by
   have h := Dp.bytes_row rB (by rw [Dp.ptext_length]; simp [maxLen]) 5
   rwa [Dp.ptext_length] at h
  have hpt : Dp.Parts (w7.alloc (.cells #[.slice (some ⟨B, 0, none⟩) 5 5] 47)).drew (.slice (some ⟨H + 1, 0, none⟩) 1 1) [Dp.ptext W OS n 8] := by
   have h := Dp.parts_just (e := 47) bt
   rw [zz7] at h
   exact h
  have hS2 : Dp.Keeps (fun _ => False) w7 (w7.alloc (.cells #[.slice (some ⟨B, 0, none⟩) 5 5] 47)).drew := ((Dp.Keeps.refl (fun _ => False) w7).alloc _).drew
  have hflat : ([Dp.ptext W OS n 8] : List (List UInt8)).flatten = Dp.ptext W OS n 8 := by simp
  have heA := (he.keep hp7.kept).keep hS2
  go_wp2
  refine Dp.wp_region_L (fun wx => Dp.Keeps (fun _ => False) w7 wx) 13 mixedP ?_
  refine' Dp.tj 0 hS0 ?_
  simp only [Act.put, Dp.tks]
  refine' Dp.tj 1 hS0 ?_
  simp only [Act.put, Dp.tks]
  refine' Dp.tj 2 hS0 ?_
  simp only [Act.put, Dp.tks]
  refine' Dp.tj 3 hS0 ?_
  simp only [Act.put, Dp.tks]
  refine' Dp.tj 4 hS0 ?_
  simp only [Act.put, Dp.tks]
  refine' Dp.tj 5 hS0 ?_
  simp only [Act.put, Dp.tks]
  refine' Dp.tj 8 hS0 ?_
  simp only [Act.put, Dp.tks]
  refine' Dp.tj 9 hS0 ?_
  simp only [Act.put, Dp.tks]
  refine' Dp.tj 10 hS0 ?_
  simp only [Act.put, Dp.tks]
  refine' Dp.tj 11 hS0 ?_
  simp only [Act.put, Dp.tks]
  refine Dp.wpAnyL_one 6 rfl (by kernel_rfl) (by rfl) (fun K hK => ?_)
  go_simp
  refine hK _ _ ⟨fun _ => hS2, ?_⟩
  clear hK K
  refine Dp.wpAnyL_one 7 rfl (by kernel_rfl) (by rfl) (fun K hK => ?_)
  go_simp
  with_reducible refine (digSum _ _ _ hpt).mono ?_
  rintro e wA ⟨rfl, rfl⟩
  rw [hflat, HPT.out]
  refine hK _ _ ⟨fun _ => hS2, ?_⟩
  clear hK K
  refine Dp.wpAnyL_one 12 rfl (by kernel_rfl) (by rfl) (fun K hK => ?_)
  go_simp
  refine hK _ _ ⟨fun _ => hS2, ?_⟩
  clear hK K
  refine Dp.wpAnyL_one 13 rfl (by kernel_rfl) (by rfl) (fun K hK => ?_)
  go_simp
  by_cases hfit : (Dp.rooted m.rest W n 8 == m.root) = true
  ·rw [hfit]
   refine (progReqT _ _).mono ?_
   rintro e wA ⟨rfl, hwA⟩
   refine hK _ _ ⟨fun h => absurd h (Nat.lt_irrefl _), ?_⟩
   clear hK K
   rw [← hwA] at hS2
   refine Dp.wpAnyL_rest (by kernel_rfl) ?_
   refine wpAny_done (by kernel_rfl) ?_ _
   have hrA := hr7.keep hS2 (fun e => e)
   have hoA := ho7.keep hS2 (fun _ _ e => e)
   have hpA := hp7.keep hS2 (fun e => e) (fun _ _ e => e)
   have rrA := rr7.keep hS2 (fun e => e)
   have rpA := r7p.keep hS2 (fun e => e)
   have rHA := r7.keep hS2 (fun e => e)
   have kkA : Dp.Keeps (fun k => k = p) w wA := kk7.trans (hS2.mono (fun _ _ e => e.elim))
   have zA := hS2.size
   have HTA := Hid.mk_ (ht7.keep hS2 (fun _ _ _ e => e))
   clear q1 q2 q3 hpt bt hwA hr7 ho7 hp7 rr7 r7p r7 ht7 rB kk7 hS0 hS2 heA
   have q3 : ∀ wx, Dp.Keeps (fun _ => False) wA wx → wx.cell? ⟨q, 3, none⟩ = some (.slice adt xs.length capt) := fun wx kx => (hrA.keep kx (fun e => e)).cell 3
   have hS0 : Dp.Keeps (fun _ => False) wA wA.drew := (Dp.Keeps.refl _ _).drew
   have HFT : Hid (Dp.fitsNow m n = true) := HFH.out.trans hfit
   have HNW : Hid (∀ j u, vs[j]? = some u → wA.drew.cell? ((⟨H, 0, none⟩ : Addr).add j) = some u) := by
    intro j u hj
    rw [Dp.add_zero_off]
    exact (rHA.drew.cell j).trans hj
   have HON := Hid.mk_ hoA.drew
   have HXL : Hid (xs.length + 9 ≤ 16777300) := by unfold Hid; have := HXE.out; omega
   clear hfit
   go_wp2
   refine wp_region_any mixedP ?_
   refine' Dp.wpAny_pure 0 rfl (by kernel_rfl) (fun _ _ _ h => h) (.inl ⟨by rfl, ?hpc0⟩) ?pestc0
   case hpc0 => intro wx; go_simp; try with_reducible rfl
   simp only [Act.put, Dp.tks]
   refine Dp.wpAny_of_L (S := fun wx => Dp.Keeps (fun _ => False) wA wx) (n := 6) _ _ _ _ ?_
   refine' Dp.tj 1 hS0 ?_
   simp only [Act.put, Dp.tks]
   refine' Dp.tj 2 hS0 ?_
   simp only [Act.put, Dp.tks]
   refine' Dp.tj 3 hS0 ?_
   simp only [Act.put, Dp.tks]
   refine' Dp.tj 4 hS0 ?_
   simp only [Act.put, Dp.tks]
   refine' Dp.tj 5 hS0 ?_
   simp only [Act.put, Dp.tks]
   refine Dp.wpAnyL_rest (by kernel_rfl) ?_
   refine Dp.wpAny_tail 6 rfl (by kernel_rfl) ?_
   simp only [List.drop_succ_cons, List.drop_zero]
   go_wp2_with (at_builtin; refine Dp.wpList_append_Own rfl _ _ 27 rfl 47 (.slice none 0 0) 24 Tryz.underlying27 infoBytes rfl (.slice adt xs.length capt) xs rfl HON.out ⟨H, 0, none⟩ 9 9 vs rfl HV9.out HNW.out HV1.out (by omega) (by have := HXL.out; unfold maxLen; omega) (by have := HXL.out; omega) ?_)
   intro v8 w8 o8 k8 s8
   have hvq : ¬ (Value.slice adt xs.length capt).ownBlock = some q := fun e => hoA.ne hrA (by decide) _ e rfl
   have hvr : ¬ (Value.slice adt xs.length capt).ownBlock = some w.heap.size := fun e => hoA.ne rrA (by decide) _ e rfl
   have hvg : ¬ (Value.slice adt xs.length capt).ownBlock = some G := fun e => hoA.ne rpA (by decide) _ e rfl
   have hvp : ¬ (Value.slice adt xs.length capt).ownBlock = some p := by
    obtain ⟨v, hv1, _⟩ := hpA.row
    exact fun e => hoA.ne hv1 (by decide) _ e rfl
   have k8' : Dp.Keeps (fun k => (Value.slice adt xs.length capt).ownBlock = some k) wA w8 := (hS0.mono (fun _ _ e => e.elim)).trans k8
   have hr8 := hrA.keep k8' hvq
   have rr8 := rrA.keep k8' hvr
   have rp8 := rpA.keep k8' hvg
   have hp8 := hpA.keep k8' hvp (fun i hi e => by have := hn i e; omega)
   have kk8 : Dp.Keeps (Dp.ProofsF q p w) w w8 := (kkA.mono (fun i _ e => .inr (.inl e))).next k8' (fun i hi e => .inr (.inr ⟨_, _, _, _, HROW.out, e⟩))
   obtain ⟨ad8, cap8, ev8⟩ := o8.isSlice
   subst ev8
   have c8 : w8.cell? ⟨q, 3, none⟩ = some (.slice adt xs.length capt) := hr8.cell 3
   have f8 := hr8.frozen 3
   have hn8 : ∀ g, (Value.slice ad8 (xs ++ vs).length cap8).ownBlock = some g → wb.heap.size ≤ g := by
    intro g hg
    rcases s8.out with hh | hh
    ·rw [hh.1] at hg; exact hn g hg
    ·rw [hh.1] at hg
     have : wA.heap.size = g := by simpa using hg
     omega
   have h8q : ∀ g, (Value.slice ad8 (xs ++ vs).length cap8).ownBlock = some g → ¬ g = q := fun g hg => o8.ne hr8 (by decide) g hg
   have h8w : ∀ g, (Value.slice ad8 (xs ++ vs).length cap8).ownBlock = some g → ¬ g = w.heap.size := fun g hg => o8.ne rr8 (by decide) g hg
   have kset : Dp.Keeps (fun k => k = q) w8 (w8.setCell ⟨q, 3, none⟩ (.slice ad8 (xs ++ vs).length cap8)) := Dp.Keeps.setCell (S := fun k => k = q) (p := ⟨q, 3, none⟩) (Dp.Keeps.refl _ _) (.inr rfl) _
   have ht8 := HTA.out.keep k8' (fun B e hB hS => hoA.ne hB (by decide) B hS rfl)
   have HT9 := Hid.mk_ (ht8.keep kset (fun B e hB hS => hB.ne hr8 (by decide) hS))
   clear ht8
   have HR9 : Hid (Dp.Row (w8.setCell ⟨q, 3, none⟩ (.slice ad8 (xs ++ vs).length cap8)) q 184 [a, .pointer (some ⟨p, 0, none⟩), .int .i64 m.root, .slice ad8 (xs ++ vs).length cap8]) := hr8.set 3 _
   have HO9 := Hid.mk_ (o8.keep kset h8q)
   have HP9 := Hid.mk_ (hp8.keep kset hpq (fun i hi e => by omega))
   have HK9 : Hid (Dp.Keeps (Dp.ProofsF q p w) w (w8.setCell ⟨q, 3, none⟩ (.slice ad8 (xs ++ vs).length cap8))) := kk8.next kset (fun i _ e => .inl e)
   have HRR : Hid (Dp.Row (w8.setCell ⟨q, 3, none⟩ (.slice ad8 (xs ++ vs).length cap8)) w.heap.size 219 ([] ++ Dp.proofCells 0 [0, 0, 0, 0, 0, 0, 0, 0] ++ [])) := by
    unfold Hid; rw [List.append_nil, List.nil_append]; exact rr8.keep kset (show ¬ w.heap.size = q by omega)
   have HRP : Hid (Dp.Row (w8.setCell ⟨q, 3, none⟩ (.slice ad8 (xs ++ vs).length cap8)) G 219 ([] ++ Dp.proofCells W OS ++ [])) := by
    unfold Hid; rw [List.append_nil, List.nil_append]; exact rp8.keep kset (show ¬ G = q by omega)
   have HLEN : Hid ((m.texts ++ Dp.pfTexts m.rest n).length + (m.rest.drop 20).length ≤ L) := by
    unfold Hid; rw [List.length_append, List.length_drop, Dp.pfTexts_length]; omega
   clear q3 hrA hoA hpA rrA rpA rHA kkA hr8 rr8 rp8 hp8 kk8 o8 k8 k8' s8 kset HNW HON h8q
   have hft := HFT.out
   generalize hXL : (xs ++ vs).length = XL at *
   have HXX := Hid.mk_ hXL
   clear hXL
   go_wp2_with (first | (refine Dp.wpList_store_in rfl 219 _ _ rfl w.heap.size 0 rfl (Dp.proofCells W OS) rfl 219 [] _ [] HRR.out rfl (HM.out.trans rfl) (by rw [sizeProof, HM.out]) (Dp.proofCells_one _ _) ?_) | (refine Dp.wpList_load_in rfl 219 _ rfl G 0 rfl 219 [] _ [] HRP.out rfl _ Tryz.underlying219 rfl (by rw [sizeProof, HM.out]) ?_; intro _))
   intro w10 r10 z10 k10
   go_wp2
   refine bodyPost_ret (v := .agg (Dp.proofCells W OS).toArray) (results_cell_row rfl _ _ w.heap.size 219 _ (0, 0) _ rfl r10 Tryz.underlying219 rfl (by rw [sizeProof, List.size_toArray, HM.out])) rfl ?_
   first | rw [Dp.after_some] | rw [HFT.out, if_pos rfl, Dp.after_some]
   refine ⟨by first | rfl | rw [hOO] | rw [hWW, hOO], ⟨HP9.out.keep k10 (show ¬ p = w.heap.size by omega) (fun i hi e => by omega), hqn, hpq, hcp, hcq, hlo, hclt, HON2.out _ (HK9.out.next k10 (fun i hi e => by omega)), HRT.out, ⟨a, _, xs ++ vs, ha, HR9.out.keep k10 (show ¬ q = w.heap.size by omega), HO9.out.keep k10 h8w, (HT0.out.keep (HK9.out.next k10 (fun i hi e => by omega)) (fun g e hg _ => HAP.out g e hg)).append (by rw [HPF.out]; exact (HT9.out.keep k10 (fun B e hB hS => hB.ne HRR.out (by decide) hS)).at HLO.out), HLEN.out, hn8⟩⟩, HK9.out.next k10 (fun i hi e => by omega)⟩
  ·have hf2 : (Dp.rooted m.rest W n 8 == m.root) = false := by simpa using hfit
   rw [hf2]
   refine (progReqF _ eb _ heA).mono ?_
   rintro e wA' ⟨rfl, rfl⟩
   refine ⟨rfl, ?_⟩
   rw [HFH.out, hf2]
   exact ⟨rfl, hp7.kept.trans hS2⟩
 ·rw [if_neg h20, Dp.after_none] at h2
  obtain ⟨rfl, k2⟩ := h2
  have hf : Dp.fitsNow m n = false := by unfold Dp.fitsNow; rw [decide_eq_false h20, Bool.false_and]
  exact ⟨rfl, by rw [hf]; exact ⟨rfl, k2⟩⟩
namespace Dp
theorem ProofsInv.still {w0 wb : World} {pc q p L : Nat} {w w' : World} {m : Pm} (h : ProofsInv w0 wb pc q p L w m) (hpc : w0.heap.size ≤ pc) (k : Keeps (fun _ => False) w w') : ProofsInv w0 wb pc q p L w' m :=
 (h.keep hpc (k.mono (fun _ _ e => e.elim))).1
theorem ProofsInv.setRoot {w0 wb : World} {pc q p L : Nat} {w : World} {m : Pm} (h : ProofsInv w0 wb pc q p L w m) (r : Int) (hr : 0 ≤ r ∧ r < 65536) : ProofsInv w0 wb pc q p L (w.setCell ⟨q, 2, none⟩ (.int .i64 r)) { m with root := r } := by
 obtain ⟨a, vt, xs, ha, h1, ho, ht, hl, hn⟩ := h.row
 have k : Keeps (fun i => i = q) w (w.setCell ⟨q, 2, none⟩ (.int .i64 r)) := Keeps.setCell (S := fun i => i = q) (p := ⟨q, 2, none⟩) (Keeps.refl _ _) (.inr rfl) _
 refine ⟨h.parts.keep k h.pq (fun i hi e => by have := h.new; omega), h.new, h.pq, h.cp, h.cq, h.lo, h.clt, h.frame.trans (k.mono (fun _ _ e => .inr (.inl e))), hr, ⟨a, vt, xs, ha, h1.set 2 _, ho.keep k (ho.ne h1 (by decide)), ht.keep k (fun g e hg _ => hg.ne h1 (by decide)), hl, hn⟩⟩
theorem ProofsInv.q_lt {w0 wb : World} {pc q p L : Nat} {w : World} {m : Pm} (h : ProofsInv w0 wb pc q p L w m) : q < w.heap.size := by
 obtain ⟨a, vt, xs, ha, h1, _⟩ := h.row
 exact h1.lt
end Dp
set_option maxRecDepth 100000 in
set_option maxHeartbeats 1000000 in
theorem progPLoad (w0 wb : World) (pc q p : Nat) (eb : Addr) (L : Nat) (n : Int) (w : World) (m : Dp.Pm) (he : Dp.ErrAt w0 eb) (h : Dp.ProofsInv w0 wb pc q p L w m) (hL : L ≤ 16777216) (hn : Dp.isWord n) :
  Calls Tryz.prog 178 #[.pointer (some ⟨q, 0, none⟩), .int .u32 n] w fun e w' => Dp.after (Dp.proofsMemo.load m n) (e = .panicked (Dp.wrong eb) ∧ Dp.Keeps (fun _ => False) w0 w') fun r => e = .returned (.tuple #[.int .u32 r.2.1, .int .i64 r.2.2]) ∧ Dp.isWord r.2.1 ∧ (0 ≤ r.2.2 ∧ r.2.2 < 8) ∧ Dp.ProofsInv w0 wb pc q p L w' r.1 ∧ Dp.Keeps (Dp.ProofsF q p w) w w' := by
 unfold Dp.isWord at hn
 by_cases hge : n ≥ 256
 ·have HC := Hid.mk_ (progReach (.pointer (some ⟨q, 0, none⟩)) n w)
  rw [if_pos hge] at HC
  have HE : Hid (Dp.proofsMemo.load m n = some (m, 0, 3)) := by unfold Hid; simp only [Dp.proofsMemo, hge, if_true]
  go_enter Tryz.func178, Tryz.ntmps178
  go_wp2_with (refine HC.out.mono ?_; rintro e w' ⟨rfl, rfl⟩)
  go_ret2
  rw [HE.out]
  exact ⟨rfl, by simp [Dp.isWord], by simp, h, Dp.Keeps.refl _ _⟩
 ·have HC := Hid.mk_ (progReach (.pointer (some ⟨q, 0, none⟩)) n w)
  rw [if_neg hge] at HC
  obtain ⟨k, rfl⟩ := Int.eq_ofNat_of_zero_le hn.1
  have HE : Hid (Dp.proofsMemo.load m (k : Int) = if Dp.fitsNow m k then some (⟨m.rest.drop 20, m.root, m.texts ++ Dp.pfTexts m.rest k⟩, Dp.numTo m.rest 0 4, 0) else none) := by unfold Hid; simp only [Dp.proofsMemo, hge, if_false, Int.toNat_natCast]
  have HB := Hid.mk_ (Dp.numTo_bd m.rest 0 4 (Nat.le_refl _))
  go_enter Tryz.func178, Tryz.ntmps178
  go_wp2_with fail
  refine HC.out.mono ?_
  rintro e w' ⟨rfl, hww⟩
  subst w'
  go_wp2_with fail
  refine (progPCut w0 wb pc q p eb L k _ m he h hL).mono ?_
  intro e w1 h1
  cases hf : Dp.fitsNow m k with
  | true =>
   rw [hf, if_pos rfl, Dp.after_some] at h1
   obtain ⟨rfl, hI, hk⟩ := h1
   have HE2 := HE.out
   rw [hf, if_pos rfl] at HE2
   have HE3 := Hid.mk_ HE2
   clear HE2 hf
   generalize Dp.numTo m.rest 0 4 = W at *
   generalize Dp.others m.rest 8 = OS at *
   have hfd : ∀ wx, (Instr.field 219 (.agg (Dp.proofCells W OS).toArray) 0).run Tryz.prog wx = .ok (.int .u32 W) wx := fun wx => rfl
   go_wp2
   go_ret2
   rw [HE3.out]
   exact ⟨rfl, HB.out, by simp, hI, hk⟩
  | false =>
   rw [hf, if_neg (by simp), Dp.after_none] at h1
   obtain ⟨rfl, hk⟩ := h1
   have HE2 := HE.out
   rw [hf, if_neg (by simp)] at HE2
   exact ⟨rfl, by rw [HE2]; exact ⟨rfl, hk⟩⟩
set_option maxRecDepth 100000 in
set_option maxHeartbeats 1000000 in
theorem progPStore (w0 wb : World) (pc q p : Nat) (eb : Addr) (L : Nat) (n v : Int) (w : World) (m : Dp.Pm) (he : Dp.ErrAt w0 eb) (h : Dp.ProofsInv w0 wb pc q p L w m) (hpc : w0.heap.size ≤ pc) (hL : L ≤ 16777216) (hn : Dp.isWord n) (hv : Dp.isWord v) :
  Calls Tryz.prog 180 #[.pointer (some ⟨q, 0, none⟩), .int .u32 n, .int .u32 v] w fun e w' => Dp.after (Dp.proofsMemo.store m n v) (e = .panicked (Dp.wrong eb) ∧ Dp.Keeps (fun _ => False) w0 w') fun r => e = .returned (.int .i64 r.2) ∧ (0 ≤ r.2 ∧ r.2 < 8) ∧ Dp.ProofsInv w0 wb pc q p L w' r.1 ∧ Dp.Keeps (Dp.ProofsF q p w) w w' := by
 unfold Dp.isWord at hn
 by_cases hge : n ≥ 256
 ·have HC := Hid.mk_ (progReach (.pointer (some ⟨q, 0, none⟩)) n w)
  rw [if_pos hge] at HC
  have HE : Hid (Dp.proofsMemo.store m n v = some (m, 3)) := by unfold Hid; simp only [Dp.proofsMemo, hge, if_true]
  go_enter Tryz.func180, Tryz.ntmps180
  go_wp2_with (refine HC.out.mono ?_; rintro e w' ⟨rfl, rfl⟩)
  go_ret
  rw [HE.out]
  exact ⟨rfl, by simp, h, Dp.Keeps.refl _ _⟩
 ·have HC := Hid.mk_ (progReach (.pointer (some ⟨q, 0, none⟩)) n w)
  rw [if_neg hge] at HC
  obtain ⟨k, rfl⟩ := Int.eq_ofNat_of_zero_le hn.1
  have HE : Hid (Dp.proofsMemo.store m (k : Int) v = if Dp.fitsNow m k then some (⟨m.rest.drop 20, Dp.rooted m.rest v k 8, m.texts ++ Dp.pfTexts m.rest k⟩, 0) else none) := by unfold Hid; simp only [Dp.proofsMemo, hge, if_false, Int.toNat_natCast]
  go_enter Tryz.func180, Tryz.ntmps180
  go_wp2_with fail
  refine HC.out.mono ?_
  rintro e w' ⟨rfl, hww⟩
  subst w'
  go_wp2_with fail
  refine (progPCut w0 wb pc q p eb L k _ m he h hL).mono ?_
  intro e w1 h1
  cases hf : Dp.fitsNow m k with
  | true =>
   rw [hf, if_pos rfl, Dp.after_some] at h1
   obtain ⟨rfl, hI, hk⟩ := h1
   have HE2 := HE.out
   rw [hf, if_pos rfl] at HE2
   have HE3 := Hid.mk_ HE2
   have HRB := Hid.mk_ (Dp.rooted_bd m.rest v k 8)
   have HPT := Hid.mk_ (Dp.ptext_rooted m.rest v k 8 (Nat.le_refl _))
   have HOL := Hid.mk_ (Dp.others_length m.rest 8)
   have HOB := Hid.mk_ (Dp.others_bd m.rest 8)
   have HII := Hid.mk_ hI
   have hql := hI.q_lt
   obtain ⟨a, vt, xs, ha, hrow, _⟩ := hI.row
   clear HE2 hf hI
   generalize Dp.numTo m.rest 0 4 = W at *
   generalize Dp.others m.rest 8 = OS at *
   generalize Dp.rooted m.rest v k 8 = R at *
   have HM : Hid ((Dp.proofCells W OS).length = 9) := by unfold Hid; rw [Dp.proofCells_length, HOL.out]
   have HM2 : Hid ((Dp.proofCells v OS).length = 9) := by unfold Hid; rw [Dp.proofCells_length, HOL.out]
   generalize hG : w1.heap.size = G at *
   go_wp2_with (refine Dp.wpList_alloc_row rfl 219 rfl _ zeroProof ?_)
   intro w2 r2 z2 k2
   have HR2 : Hid (Dp.Row w2 G 219 ([] ++ Dp.proofCells 0 [0, 0, 0, 0, 0, 0, 0, 0] ++ [])) := by unfold Hid; rw [List.append_nil, List.nil_append]; first | exact r2 | (rw [← hG]; exact r2)
   go_wp2_with (refine Dp.wpList_store_in rfl 219 _ _ rfl G 0 rfl (Dp.proofCells W OS) rfl 219 [] _ [] HR2.out rfl (HM.out.trans rfl) (by rw [sizeProof, HM.out]) (Dp.proofCells_one _ _) ?_)
   intro w3 r3 z3 k3
   have r3' : Dp.Row w3 G 219 (Dp.proofCells W OS) := by simpa using r3
   have c0 : w3.cell? ⟨G, 0, none⟩ = some (.int .u32 W) := r3'.cell 0
   have f0 := r3'.frozen 0
   have HR4 : Hid (Dp.Row (w3.setCell ⟨G, 0, none⟩ (.int .u32 v)) G 219 ([] ++ Dp.proofCells v OS ++ [])) := by
    unfold Hid; rw [List.append_nil, List.nil_append]; exact r3'.set 0 _
   have k13 : Dp.Keeps (fun _ => False) w1 w3 := k2.next k3 (fun i hi e => by omega)
   have HK4 : Hid (Dp.Keeps (fun _ => False) w1 (w3.setCell ⟨G, 0, none⟩ (.int .u32 v))) := k13.setCell (p := ⟨G, 0, none⟩) (.inl (by show w1.heap.size ≤ G; omega)) _
   clear r2 z2 k2 r3 r3' z3 k3 k13 HR2
   go_wp2_with (refine Dp.wpList_load_in rfl 219 _ rfl G 0 rfl 219 [] _ [] HR4.out rfl _ Tryz.underlying219 rfl (by rw [sizeProof, HM2.out]) ?_)
   intro _
   go_wp2_with fail
   refine (progPRoot v OS k _ hv HOL.out HOB.out).mono ?_
   rintro e w5 ⟨rfl, k5⟩
   rw [HPT.out]
   have k15 := HK4.out.trans k5
   have hr5 := hrow.keep k15 (fun e => e)
   have c2 : w5.cell? ⟨q, 2, none⟩ = some (.int .i64 m.root) := hr5.cell 2
   have f2 := hr5.frozen 2
   have HI5 := Hid.mk_ ((HII.out.still hpc k15).setRoot R (by have := HRB.out; omega))
   have HK6 : Hid (Dp.Keeps (Dp.ProofsF q p w) w (w5.setCell ⟨q, 2, none⟩ (.int .i64 R))) := (hk.next k15 (fun i hi e => e.elim)).setCell (p := ⟨q, 2, none⟩) (.inr (.inl rfl)) _
   clear k15 k5 hr5 hrow c0 f0 HR4 HK4 hk
   go_wp2
   go_ret
   rw [HE3.out]
   exact ⟨rfl, by simp, HI5.out, HK6.out⟩
  | false =>
   rw [hf, if_neg (by simp), Dp.after_none] at h1
   obtain ⟨rfl, hk⟩ := h1
   have HE2 := HE.out
   rw [hf, if_neg (by simp)] at HE2
   exact ⟨rfl, by rw [HE2]; exact ⟨rfl, hk⟩⟩
end Go.Proofs.YtdipojfngdceoaaGreatDoor
