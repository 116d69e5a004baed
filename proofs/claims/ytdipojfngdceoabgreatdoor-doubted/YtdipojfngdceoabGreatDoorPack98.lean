/- Steps on the way: ProgCollide. -/
import Derived.Test.YtdipojfngdceoabGreatDoorPack105
import Derived.Test.YtdipojfngdceoabGreatDoorPack133
import Derived.Test.YtdipojfngdceoabGreatDoorPack78
import Derived.Test.YtdipojfngdceoabGreatDoorPack84
import Derived.Test.YtdipojfngdceoabGreatDoorPack95
/- The program's Collision. -/
namespace Go.Proofs.YtdipojfngdceoabGreatDoor
open Go.RowKit

namespace Dp
section
variable {P : Program} {md : Region.Mode} {ops : Array Oper} {Q : Exit → Act → World → Prop} {S : World → Prop} {n : Nat}
theorem wpAnyL_three (i j k : Nat) {oi oj ok : Oper} {fuel : Nat} {listed : Array Bool} {a : Act} {w : World} (hi : ops[i]? = some oi) (hj : ops[j]? = some oj) (hk : ops[k]? = some ok) (hr : Region.ready md ops listed = [i, j, k]) (hgi : Region.wanted oi (yielded ops a.tmps) = true) (hgj : Region.wanted oj (yielded ops a.tmps) = true) (hgk : Region.wanted ok (yielded ops a.tmps) = true)
    (h1 : ∀ K : Act → World → Prop, (∀ a' w', (i < n → S w') ∧ wpAnyL P md ops Q S n fuel (listed.setIfInBounds i true) a' w' → K a' w') → oi.wp P a w K Q)
    (h2 : ∀ K : Act → World → Prop, (∀ a' w', (j < n → S w') ∧ wpAnyL P md ops Q S n fuel (listed.setIfInBounds j true) a' w' → K a' w') → oj.wp P a w K Q)
    (h3 : ∀ K : Act → World → Prop, (∀ a' w', (k < n → S w') ∧ wpAnyL P md ops Q S n fuel (listed.setIfInBounds k true) a' w' → K a' w') → ok.wp P a w K Q) : wpAnyL P md ops Q S n (fuel + 1) listed a w := by
  refine ⟨fun h0 => (by rw [hr] at h0; cases h0), fun q hq => ?_⟩
  rw [hr] at hq
  simp only [List.mem_cons, List.not_mem_nil, or_false] at hq
  rcases hq with rfl | rfl | rfl
  · unfold wpOp
    simp only [hi, hgi, if_true]
    exact .inl (h1 _ (fun _ _ h => h))
  · unfold wpOp
    simp only [hj, hgj, if_true]
    exact .inl (h2 _ (fun _ _ h => h))
  · unfold wpOp
    simp only [hk, hgk, if_true]
    exact .inl (h3 _ (fun _ _ h => h))
end
/-- The two accounts, in memory. -/
structure Coll (x0 x : World) (TA TB : Nat) (vt vd : Value) (xs : List Value) (X : List (List UInt8)) (OX : List UInt8) (C1 C2 SA ME : Int) : Prop where
  acc : Row x TA 117 (accCells vt C1 C2)
  deed : Row x TB 111 (deedCells vd SA ME)
  own : Own x 35 vt xs
  texts : TextsAt x0 x xs X
  shown : Own x 5 vd (vals OX)
  new1 : ∀ g, vt.ownBlock = some g → x0.heap.size ≤ g
  new2 : ∀ g, vd.ownBlock = some g → x0.heap.size ≤ g
  keep : Keeps (fun _ => False) x0 x
/-- Is the witness l taken for another step than the machine's? -/
def collides (m : Mach) (l : List UInt8) : Prop := (checked (stamp m.s (root m.cells)) l).2 = 0 ∧ m.step.2 ≠ 5 ∧ ¬ (m.step.2 = 0 ∧ stamp m.step.1.s (root m.step.1.cells) = (checked (stamp m.s (root m.cells)) l).1)
/-- Two different texts with one sum, new since w. -/
structure Two (w w' : World) (a b : Value) (A B : List UInt8) : Prop where
  own1 : Own w' 5 a (vals A)
  own2 : Own w' 5 b (vals B)
  ne : A ≠ B
  sum : sum A = sum B
  new1 : ∀ g, a.ownBlock = some g → w.heap.size ≤ g
  new2 : ∀ g, b.ownBlock = some g → w.heap.size ≤ g
  apart : ∀ g, a.ownBlock = some g → ¬ b.ownBlock = some g
  small1 : A.length ≤ 300
  small2 : B.length ≤ 300
end Dp

theorem fieldTexts (vt : Value) (a b : Int) (w : World) : (Instr.field 117 (.agg (Dp.accCells vt a b).toArray) 0).run Tryz.prog w = .ok vt w := by kernel_rfl
theorem Dp.texts_small {w0 w : World} {v : Value} {xs : List Value} {X : List (List UInt8)} (ho : Dp.Own w 35 v xs) (hx : Dp.TextsAt w0 w xs X) : X.length ≤ 9223372036854775807 := by
  rw [← hx.1]
  rcases ho with ⟨_, h⟩ | ⟨g, tail, _, _, h⟩
  · rw [h]; simp
  · unfold maxLen at h; omega

set_option maxRecDepth 100000 in
set_option maxHeartbeats 4000000 in
theorem progVCollision (G : Nat → Prop) (w : World) (eb : Addr) (m : Dp.Mach) (vs : Value) (ad : Option Addr) (cap : Nat) (l : List UInt8) (he : Dp.ErrAt w eb) (hok : m.Ok) (hpi : Dp.PartsIn G w vs m.srcs) (hG : ∀ g, G g → g < w.heap.size) (hc : Dp.Cutting w (.slice ad l.length cap) l) (hl : l.length ≤ 9223372036854775807) :
    Calls Tryz.prog 31 #[.agg (Dp.stateCells m.s).toArray, .agg (Dp.memCells vs m.cells).toArray, .slice ad l.length cap] w fun e w' => Dp.Keeps (fun _ => False) w w' ∧ ((¬ Dp.collides m l ∧ e = .returned (.tuple #[.slice none 0 0, .slice none 0 0, .bool false])) ∨ (Dp.collides m l ∧ ∃ a b A B, e = .returned (.tuple #[a, b, .bool true]) ∧ Dp.Two w w' a b A B)) := by
  have HMS : Hid ((Dp.stateCells m.s).length = 12) := Dp.stateCells_length m.s hok.s.len
  have HMM : Hid ((Dp.memCells vs m.cells).length = 257) := by unfold Hid; simp [Dp.memCells, Dp.wordCells, hok.len]
  have HRB := Hid.mk_ (Dp.root_bd m.cells)
  have HOK := Hid.mk_ hok
  have HPI := Hid.mk_ hpi
  have HE := Hid.mk_ he
  have HCU := Hid.mk_ hc
  go_enter Tryz.func31, Tryz.ntmps31
  go_wp2_with (refine Dp.wpList_box_row rfl 79 _ rfl (Dp.stateCells m.s) rfl ?_)
  intro w1 r1 z1 k1
  go_wp2_with (refine Dp.wpList_box_row rfl 84 _ rfl (Dp.memCells vs m.cells) rfl ?_)
  intro w2 r2 z2 k2
  have HRS : Hid (Dp.Row w2 w.heap.size 79 (Dp.stateCells m.s)) := r1.keep k2 (fun e => e)
  have HRC : Hid (Dp.Row w2 (w.heap.size + 1) 84 ([] ++ Dp.memCells vs m.cells ++ [])) := Dp.row_nil r2
  have HK2 := Hid.mk_ (k1.trans k2)
  have hz2 : w2.heap.size = w.heap.size + 1 + 1 := by omega
  clear r1 r2 k1 k2 z1 z2
  have HLS : Hid (∀ wx, Dp.Keeps (fun _ => False) w2 wx → (Instr.loadAt 79 (.pointer (some ⟨w.heap.size, 0, none⟩))).run Tryz.prog wx = .ok (.agg (Dp.stateCells m.s).toArray) wx) := fun wx kx => runLoadPS (post := []) (by rw [List.append_nil]; exact HRS.out.keep kx (fun e => e)) hok.s.len
  have HLC : Hid (∀ wx, Dp.Keeps (fun _ => False) w2 wx → (Instr.loadAt 84 (.pointer (some ⟨w.heap.size + 1, 0, none⟩))).run Tryz.prog wx = .ok (.agg (Dp.memCells vs m.cells).toArray) wx) := fun wx kx => runLoadMem (pre := []) (post := []) (HRC.out.keep kx (fun e => e)) rfl hok.len
  have hS0 : Dp.Keeps (fun _ => False) w2 w2.drew := (Dp.Keeps.refl _ _).drew
  have hokl := hok.len
  have hokw := Hid.mk_ hok.cells
  have hoks := hok.s
  clear he hc hpi hok
  go_wp2
  refine Dp.wp_region_L (fun wx => Dp.Keeps (fun _ => False) w2 wx) 3 mixedP ?_
  refine' Dp.wpAnyL_take (v := .agg (Dp.stateCells m.s).toArray) 0 rfl (by kernel_rfl) (fun _ _ _ h => h) (by rfl) ?hyp0 hS0 ?restp0
  case hyp0 => intro wx hSx; exact Dp.run_load_op rfl rfl (HLS.out wx hSx)
  simp only [Act.put, List.getElem_toArray, List.getElem_cons_zero, List.setIfInBounds_toArray, List.set_cons_zero, List.set_cons_succ]
  refine Dp.wpAnyL_one 1 rfl (by kernel_rfl) (by rfl) (fun K hK => ?_)
  go_simp
  refine (progRoot _ (w.heap.size + 1) 0 84 [] [] vs m.cells hokl (HRC.out.keep hS0 (fun e => e)) rfl hokw.out).mono ?_
  rintro e w4 ⟨rfl, k4⟩
  have hS4 := hS0.trans k4
  refine hK _ _ ⟨fun _ => hS4, ?_⟩
  clear hK K
  refine Dp.wpAnyL_one 2 rfl (by kernel_rfl) (by rfl) (fun K hK => ?_)
  go_simp
  refine (progSStamp m.s (Dp.root m.cells) _ hoks (by have := HRB.out; omega)).mono ?_
  rintro e w5 ⟨rfl, k5⟩
  have hS5 := hS4.trans k5
  refine hK _ _ ⟨fun _ => hS5, ?_⟩
  clear hK K
  refine Dp.wpAnyL_rest (by kernel_rfl) ?_
  refine Dp.wpAny_tail 3 rfl (by kernel_rfl) ?_
  simp only [List.drop_succ_cons, List.drop_zero]
  have HK5 := Hid.mk_ (HK2.out.trans hS5)
  have HLS5 : Hid (∀ wx, Dp.Keeps (fun _ => False) w5 wx → (Instr.loadAt 79 (.pointer (some ⟨w.heap.size, 0, none⟩))).run Tryz.prog wx = .ok (.agg (Dp.stateCells m.s).toArray) wx) := fun wx kx => HLS.out wx (hS5.trans kx)
  have HLC5 : Hid (∀ wx, Dp.Keeps (fun _ => False) w5 wx → (Instr.loadAt 84 (.pointer (some ⟨w.heap.size + 1, 0, none⟩))).run Tryz.prog wx = .ok (.agg (Dp.memCells vs m.cells).toArray) wx) := fun wx kx => HLC.out wx (hS5.trans kx)
  have HDO0 : Hid (∀ wx, Dp.Keeps (fun _ => False) w5 wx → Calls Tryz.prog 45 #[.agg (Dp.stateCells m.s).toArray, .agg (Dp.memCells vs m.cells).toArray] wx fun e w' => ∃ v, e = .returned (.agg (Dp.deedCells v (Dp.stamp m.step.1.s (Dp.root m.step.1.cells)) m.step.2).toArray) ∧ Dp.Own w' 5 v (Dp.vals (Dp.label m.s (Dp.root m.cells) ++ Dp.shown m)) ∧ (∀ g, v.ownBlock = some g → wx.heap.size ≤ g) ∧ Dp.Keeps (fun _ => False) wx w') := by
    intro wx kx
    have kw := HK5.out.trans kx
    refine (progDo G wx m.s vs m.cells m.srcs HOK.out HOK.out.s HOK.out.len HOK.out.cells (fun l hl => by have := HOK.out.src l hl; omega) (HPI.out.keep kw (fun g hg => ⟨hG g hg, fun e => e⟩)) (fun g hg => Nat.lt_of_lt_of_le (hG g hg) kw.size)).mono ?_
    rintro e w' ⟨v, x, hx, he, ho, hf, hk⟩
    rw [Dp.coreStep_shown] at hx
    have hx' := Option.some.inj hx
    subst hx'
    exact ⟨v, he, ho, hf, hk⟩
  have HH0 : Hid (∀ wx, Dp.Keeps (fun _ => False) w5 wx → Calls Tryz.prog 47 #[.int .i64 (Dp.stamp m.s (Dp.root m.cells)), .slice ad l.length cap] wx fun e w' => ∃ vt xs, e = .returned (.agg (Dp.accCells vt (Dp.checked (Dp.stamp m.s (Dp.root m.cells)) l).1 (Dp.checked (Dp.stamp m.s (Dp.root m.cells)) l).2).toArray) ∧ Dp.Own w' 35 vt xs ∧ Dp.TextsAt wx w' xs (Dp.heardTexts (Dp.stamp m.s (Dp.root m.cells)) l) ∧ (∀ g, vt.ownBlock = some g → wx.heap.size ≤ g) ∧ Dp.Keeps (fun _ => False) wx w') :=
    fun wx kx => progHear wx eb _ ad cap l (HE.out.keep (HK5.out.trans kx)) (HCU.out.still (HK5.out.trans kx)) hl
  clear hS0 hS4 hS5 k4 k5 HLS HLC HRS HRC HK2 hz2
  generalize hSS : Dp.stamp m.s (Dp.root m.cells) = S at *
  have HSS := Hid.mk_ hSS
  generalize hCC : Dp.checked S l = CC at *
  have HCC := Hid.mk_ hCC
  obtain ⟨C1, C2⟩ := CC
  generalize hOX : Dp.label m.s (Dp.root m.cells) ++ Dp.shown m = OX at *
  have HOX := Hid.mk_ hOX
  generalize hSA : Dp.stamp m.step.1.s (Dp.root m.step.1.cells) = SA at *
  have HSA := Hid.mk_ hSA
  generalize hME : m.step.2 = ME at *
  have HME := Hid.mk_ hME
  clear hSS hCC hOX hSA hME
  obtain ⟨x0, hx0⟩ : ∃ x0, x0 = w5.drew := ⟨_, rfl⟩
  have h50 : Dp.Keeps (fun _ => False) w5 x0 := by rw [hx0]; exact (Dp.Keeps.refl _ _).drew
  have HH : Hid (∀ wx, Dp.Keeps (fun _ => False) x0 wx → Calls Tryz.prog 47 #[.int .i64 S, .slice ad l.length cap] wx fun e w' => ∃ vt xs, e = .returned (.agg (Dp.accCells vt C1 C2).toArray) ∧ Dp.Own w' 35 vt xs ∧ Dp.TextsAt wx w' xs (Dp.heardTexts S l) ∧ (∀ g, vt.ownBlock = some g → wx.heap.size ≤ g) ∧ Dp.Keeps (fun _ => False) wx w') := fun wx kx => HH0.out wx (h50.trans kx)
  have HDO : Hid (∀ wx, Dp.Keeps (fun _ => False) x0 wx → Calls Tryz.prog 45 #[.agg (Dp.stateCells m.s).toArray, .agg (Dp.memCells vs m.cells).toArray] wx fun e w' => ∃ v, e = .returned (.agg (Dp.deedCells v SA ME).toArray) ∧ Dp.Own w' 5 v (Dp.vals OX) ∧ (∀ g, v.ownBlock = some g → wx.heap.size ≤ g) ∧ Dp.Keeps (fun _ => False) wx w') := fun wx kx => HDO0.out wx (h50.trans kx)
  have HLS0 : Hid (∀ wx, Dp.Keeps (fun _ => False) x0 wx → (Instr.loadAt 79 (.pointer (some ⟨w.heap.size, 0, none⟩))).run Tryz.prog wx = .ok (.agg (Dp.stateCells m.s).toArray) wx) := fun wx kx => HLS5.out wx (h50.trans kx)
  have HLC0 : Hid (∀ wx, Dp.Keeps (fun _ => False) x0 wx → (Instr.loadAt 84 (.pointer (some ⟨w.heap.size + 1, 0, none⟩))).run Tryz.prog wx = .ok (.agg (Dp.memCells vs m.cells).toArray) wx) := fun wx kx => HLC5.out wx (h50.trans kx)
  have HK0 := Hid.mk_ (HK5.out.trans h50)
  clear HLS5 HLC5 HH0 HDO0
  go_upto_region 2 with (fail)
  go_cut [10, 11] (fun t r wx => ∃ TA TB vt vd xs, t = .pointer (some ⟨TA, 0, none⟩) ∧ r = .pointer (some ⟨TB, 0, none⟩) ∧ Hid (Dp.Coll x0 wx TA TB vt vd xs (Dp.heardTexts S l) OX C1 C2 SA ME))
  case first =>
    refine Dp.wp_region_L (fun wx => Dp.Keeps (fun _ => False) x0 wx) 8 mixedP ?_
    rw [← hx0]
    clear hx0
    have hS0 : Dp.Keeps (fun _ => False) x0 x0 := Dp.Keeps.refl _ _
    refine' Dp.wpAnyL_take 0 rfl (by kernel_rfl) (fun _ _ _ h => h) (by rfl) ?hyf0 hS0 ?restf0
    case hyf0 => intro wx hSx; go_simp; try with_reducible rfl
    simp only [Act.put, List.getElem_toArray, List.getElem_cons_zero, List.setIfInBounds_toArray, List.set_cons_zero, List.set_cons_succ]
    refine' Dp.wpAnyL_take 1 rfl (by kernel_rfl) (fun _ _ _ h => h) (by rfl) ?hyf1 hS0 ?restf1
    case hyf1 => intro wx hSx; go_simp; try with_reducible rfl
    simp only [Act.put, List.getElem_toArray, List.getElem_cons_zero, List.getElem_cons_succ, List.setIfInBounds_toArray, List.set_cons_zero, List.set_cons_succ]
    refine' Dp.wpAnyL_take (v := .agg (Dp.stateCells m.s).toArray) 3 rfl (by kernel_rfl) (fun _ _ _ h => h) (by rfl) ?hyf3 hS0 ?restf3
    case hyf3 => intro wx hSx; exact Dp.run_load_op rfl rfl (HLS0.out wx hSx)
    simp only [Act.put, List.getElem_toArray, List.getElem_cons_zero, List.getElem_cons_succ, List.setIfInBounds_toArray, List.set_cons_zero, List.set_cons_succ]
    refine' Dp.wpAnyL_take (v := .agg (Dp.memCells vs m.cells).toArray) 4 rfl (by kernel_rfl) (fun _ _ _ h => h) (by rfl) ?hyf4 hS0 ?restf4
    case hyf4 => intro wx hSx; exact Dp.run_load_op rfl rfl (HLC0.out wx hSx)
    simp only [Act.put, List.getElem_toArray, List.getElem_cons_zero, List.getElem_cons_succ, List.setIfInBounds_toArray, List.set_cons_zero, List.set_cons_succ]
    · clear HLS0 HLC0
      refine Dp.wpAnyL_three 2 6 7 rfl rfl rfl (by kernel_rfl) (by rfl) (by rfl) (by rfl) (fun K hK => ?_) (fun K hK => ?_) (fun K hK => ?_)
      · go_simp
        refine (HH.out _ hS0).mono ?_
        rintro e x1 ⟨vt, xs, rfl, ht1, ht2, ht3, k1⟩
        have hS1 := hS0.trans k1
        refine hK _ _ ⟨fun _ => hS1, ?_⟩
        clear hK K
        try simp only [Act.put, List.getElem_toArray, List.getElem_cons_zero, List.getElem_cons_succ, List.setIfInBounds_toArray, List.set_cons_zero, List.set_cons_succ]
        refine Dp.wpAnyL_three 5 6 7 rfl rfl rfl (by kernel_rfl) (by rfl) (by rfl) (by rfl) (fun K hK => ?_) (fun K hK => ?_) (fun K hK => ?_)
        · go_simp
          refine (HDO.out _ hS1).mono ?_
          rintro e x2 ⟨vd, rfl, hd1, hd2, k2⟩
          have hS2 := hS1.trans k2
          refine hK _ _ ⟨fun _ => hS2, ?_⟩
          clear hK K
          try simp only [Act.put, List.getElem_toArray, List.getElem_cons_zero, List.getElem_cons_succ, List.setIfInBounds_toArray, List.set_cons_zero, List.set_cons_succ]
          refine Dp.wpAnyL_both 6 7 rfl rfl (by kernel_rfl) (by rfl) (by rfl) (fun K hK => ?_) (fun K hK => ?_)
          · refine Dp.wp_alloc_row 117 rfl _ zeroAcc ?_
            intro x3 rA zA k3
            clear zA
            obtain ⟨TA, hTA⟩ : ∃ T, T = x2.heap.size := ⟨_, rfl⟩
            rw [← hTA] at rA
            have hS3 := hS2.trans k3
            refine hK _ _ ⟨fun _ => hS3, ?_⟩
            clear hK K
            rw [← hTA]
            have HTAA := Hid.mk_ hTA
            clear hTA
            try simp only [Act.put, List.getElem_toArray, List.getElem_cons_zero, List.getElem_cons_succ, List.setIfInBounds_toArray, List.set_cons_zero, List.set_cons_succ]
            refine Dp.wpAnyL_one 7 rfl (by kernel_rfl) (by rfl) (fun K hK => ?_)
            refine Dp.wp_alloc_row 111 rfl _ zeroDeed ?_
            intro x4 rB zB k4
            clear zB
            obtain ⟨TB, hTB⟩ : ∃ T, T = x3.heap.size := ⟨_, rfl⟩
            rw [← hTB] at rB
            have hS4 := hS3.trans k4
            refine hK _ _ ⟨fun _ => hS4, ?_⟩
            clear hK K
            rw [← hTB]
            have HTBB := Hid.mk_ hTB
            clear hTB
            try simp only [Act.put, List.getElem_toArray, List.getElem_cons_zero, List.getElem_cons_succ, List.setIfInBounds_toArray, List.set_cons_zero, List.set_cons_succ]
            refine Dp.wpAnyL_rest (by kernel_rfl) ?_
            refine Dp.wpAny_tail 8 rfl (by kernel_rfl) ?_
            simp only [List.drop_succ_cons, List.drop_zero]
            have HA := Hid.mk_ (Dp.row_nil (rA.keep k4 (fun e => e)))
            have HB := Hid.mk_ rB
            have HT1 := Hid.mk_ (ht1.keep ((k2.trans k3).trans k4) (fun _ _ e => e))
            have HT2 := Hid.mk_ (ht2.keep ((k2.trans k3).trans k4) (fun _ _ _ _ e => e))
            have HD1 := Hid.mk_ (hd1.keep (k3.trans k4) (fun _ _ e => e))
            have b1 : x0.heap.size ≤ x1.heap.size := k1.size
            have b2 : x1.heap.size ≤ x2.heap.size := k2.size
            have b3 : x2.heap.size ≤ x3.heap.size := k3.size
            have b4 : x3.heap.size ≤ x4.heap.size := k4.size
            have HT3 : Hid (∀ g, vt.ownBlock = some g → x0.heap.size ≤ g) := fun g hg => by have := ht3 g hg; omega
            have HD2 : Hid (∀ g, vd.ownBlock = some g → x0.heap.size ≤ g) := fun g hg => by have := hd2 g hg; omega
            have HXX : Hid (Dp.TextsAt x0 x4 xs (Dp.heardTexts S l)) := ⟨HT2.out.1, fun i hi => by
              obtain ⟨v, e1, e2, e3⟩ := HT2.out.2 i hi
              exact ⟨v, e1, e2, fun g hg => by have := e3 g hg; omega⟩⟩
            have hAB : TA ≠ TB := HA.out.ne (Dp.row_nil HB.out) (by decide)
            have HSF := Hid.mk_ hS4
            obtain ⟨vta, vtc, evt⟩ := HT1.out.isSlice
            subst evt
            obtain ⟨vda, vdc, evd⟩ := HD1.out.isSlice
            subst evd
            have zA2 : x0.heap.size ≤ TA := by have := HTAA.out; omega
            have zB2 : x0.heap.size ≤ TB := by have := HTBB.out; omega
            clear rA rB HTAA HTBB ht1 ht2 ht3 hd1 hd2 k1 k2 k3 k4 hS1 hS2 hS3 hS4 HT2 b1 b2 b3 b4
            refine Dp.wpList_store_in rfl 117 _ _ rfl TA 0 rfl (Dp.accCells (.slice vta xs.length vtc) C1 C2) rfl 117 [] (Dp.accCells (.slice none 0 0) 0 0) [] HA.out rfl rfl (by rw [sizeAcc]; rfl) (Dp.accCells_one _ _ _ rfl) ?_
            intro x5 r5 z5 k5
            have HA5 : Hid (Dp.Row x5 TA 117 (Dp.accCells (.slice vta xs.length vtc) C1 C2)) := by unfold Hid; simpa using r5
            have HB5 := Hid.mk_ (Dp.row_nil (HB.out.keep k5 (fun e => hAB e.symm)))
            clear r5
            refine Dp.wpList_store_in rfl 111 _ _ rfl TB 0 rfl (Dp.deedCells (.slice vda (Dp.vals OX).length vdc) SA ME) rfl 111 [] (Dp.deedCells (.slice none 0 0) 0 0) [] HB5.out rfl rfl (by rw [sizeDeed]; rfl) (by intro v hv; simp [Dp.deedCells] at hv; rcases hv with rfl | rfl | rfl <;> rfl) ?_
            intro x6 r6 z6 k6
            have HF : Hid (Dp.Coll x0 x6 TA TB (.slice vta xs.length vtc) (.slice vda (Dp.vals OX).length vdc) xs (Dp.heardTexts S l) OX C1 C2 SA ME) := by
              have hTAt : ∀ g, (Value.slice vta xs.length vtc).ownBlock = some g → g ≠ TA ∧ g ≠ TB := fun g hg => ⟨HT1.out.ne (by simpa using HA.out) (by decide) g hg, HT1.out.ne HB.out (by decide) g hg⟩
              have hTAd : ∀ g, (Value.slice vda (Dp.vals OX).length vdc).ownBlock = some g → g ≠ TA ∧ g ≠ TB := fun g hg => ⟨HD1.out.ne (by simpa using HA.out) (by decide) g hg, HD1.out.ne HB.out (by decide) g hg⟩
              refine ⟨HA5.out.keep k6 (fun e => hAB e), by simpa using r6, (HT1.out.keep k5 (fun g hg e => (hTAt g hg).1 e)).keep k6 (fun g hg e => (hTAt g hg).2 e), ?_, (HD1.out.keep k5 (fun g hg e => (hTAd g hg).1 e)).keep k6 (fun g hg e => (hTAd g hg).2 e), HT3.out, HD2.out, (HSF.out.next k5 (fun g hg e => by omega)).next k6 (fun g hg e => by omega)⟩
              have h5 := HXX.out.keep k5 (fun g e hg _ e2 => absurd (by rw [e2] at hg; exact hg.ne (by simpa using HA.out) (by decide) rfl) id)
              exact h5.keep k6 (fun g e hg _ e2 => absurd (by rw [e2] at hg; exact hg.ne (by simpa using HB5.out) (by decide) rfl) id)
            clear r6 k6 k5 HA HB HA5 HB5 HT1 HD1 HT3 HD2 HXX HSF z5 z6 hAB zA2 zB2
            go_wp2
            go_meet
            case rel => exact ⟨TA, TB, _, _, xs, rfl, rfl, HF⟩
          · refine Dp.wp_alloc_row 111 rfl _ zeroDeed ?_
            intro x3 rB zB k3
            clear zB
            obtain ⟨TB, hTB⟩ : ∃ T, T = x2.heap.size := ⟨_, rfl⟩
            rw [← hTB] at rB
            have hS3 := hS2.trans k3
            refine hK _ _ ⟨fun _ => hS3, ?_⟩
            clear hK K
            rw [← hTB]
            have HTBB := Hid.mk_ hTB
            clear hTB
            try simp only [Act.put, List.getElem_toArray, List.getElem_cons_zero, List.getElem_cons_succ, List.setIfInBounds_toArray, List.set_cons_zero, List.set_cons_succ]
            refine Dp.wpAnyL_one 6 rfl (by kernel_rfl) (by rfl) (fun K hK => ?_)
            refine Dp.wp_alloc_row 117 rfl _ zeroAcc ?_
            intro x4 rA zA k4
            clear zA
            obtain ⟨TA, hTA⟩ : ∃ T, T = x3.heap.size := ⟨_, rfl⟩
            rw [← hTA] at rA
            have hS4 := hS3.trans k4
            refine hK _ _ ⟨fun _ => hS4, ?_⟩
            clear hK K
            rw [← hTA]
            have HTAA := Hid.mk_ hTA
            clear hTA
            try simp only [Act.put, List.getElem_toArray, List.getElem_cons_zero, List.getElem_cons_succ, List.setIfInBounds_toArray, List.set_cons_zero, List.set_cons_succ]
            refine Dp.wpAnyL_rest (by kernel_rfl) ?_
            refine Dp.wpAny_tail 8 rfl (by kernel_rfl) ?_
            simp only [List.drop_succ_cons, List.drop_zero]
            have HA := Hid.mk_ (Dp.row_nil rA)
            have HB := Hid.mk_ (rB.keep k4 (fun e => e))
            have HT1 := Hid.mk_ (ht1.keep ((k2.trans k3).trans k4) (fun _ _ e => e))
            have HT2 := Hid.mk_ (ht2.keep ((k2.trans k3).trans k4) (fun _ _ _ _ e => e))
            have HD1 := Hid.mk_ (hd1.keep (k3.trans k4) (fun _ _ e => e))
            have b1 : x0.heap.size ≤ x1.heap.size := k1.size
            have b2 : x1.heap.size ≤ x2.heap.size := k2.size
            have b3 : x2.heap.size ≤ x3.heap.size := k3.size
            have b4 : x3.heap.size ≤ x4.heap.size := k4.size
            have HT3 : Hid (∀ g, vt.ownBlock = some g → x0.heap.size ≤ g) := fun g hg => by have := ht3 g hg; omega
            have HD2 : Hid (∀ g, vd.ownBlock = some g → x0.heap.size ≤ g) := fun g hg => by have := hd2 g hg; omega
            have HXX : Hid (Dp.TextsAt x0 x4 xs (Dp.heardTexts S l)) := ⟨HT2.out.1, fun i hi => by
              obtain ⟨v, e1, e2, e3⟩ := HT2.out.2 i hi
              exact ⟨v, e1, e2, fun g hg => by have := e3 g hg; omega⟩⟩
            have hAB : TA ≠ TB := HA.out.ne (Dp.row_nil HB.out) (by decide)
            have HSF := Hid.mk_ hS4
            obtain ⟨vta, vtc, evt⟩ := HT1.out.isSlice
            subst evt
            obtain ⟨vda, vdc, evd⟩ := HD1.out.isSlice
            subst evd
            have zA2 : x0.heap.size ≤ TA := by have := HTAA.out; omega
            have zB2 : x0.heap.size ≤ TB := by have := HTBB.out; omega
            clear rA rB HTAA HTBB ht1 ht2 ht3 hd1 hd2 k1 k2 k3 k4 hS1 hS2 hS3 hS4 HT2 b1 b2 b3 b4
            refine Dp.wpList_store_in rfl 117 _ _ rfl TA 0 rfl (Dp.accCells (.slice vta xs.length vtc) C1 C2) rfl 117 [] (Dp.accCells (.slice none 0 0) 0 0) [] HA.out rfl rfl (by rw [sizeAcc]; rfl) (Dp.accCells_one _ _ _ rfl) ?_
            intro x5 r5 z5 k5
            have HA5 : Hid (Dp.Row x5 TA 117 (Dp.accCells (.slice vta xs.length vtc) C1 C2)) := by unfold Hid; simpa using r5
            have HB5 := Hid.mk_ (Dp.row_nil (HB.out.keep k5 (fun e => hAB e.symm)))
            clear r5
            refine Dp.wpList_store_in rfl 111 _ _ rfl TB 0 rfl (Dp.deedCells (.slice vda (Dp.vals OX).length vdc) SA ME) rfl 111 [] (Dp.deedCells (.slice none 0 0) 0 0) [] HB5.out rfl rfl (by rw [sizeDeed]; rfl) (by intro v hv; simp [Dp.deedCells] at hv; rcases hv with rfl | rfl | rfl <;> rfl) ?_
            intro x6 r6 z6 k6
            have HF : Hid (Dp.Coll x0 x6 TA TB (.slice vta xs.length vtc) (.slice vda (Dp.vals OX).length vdc) xs (Dp.heardTexts S l) OX C1 C2 SA ME) := by
              have hTAt : ∀ g, (Value.slice vta xs.length vtc).ownBlock = some g → g ≠ TA ∧ g ≠ TB := fun g hg => ⟨HT1.out.ne (by simpa using HA.out) (by decide) g hg, HT1.out.ne HB.out (by decide) g hg⟩
              have hTAd : ∀ g, (Value.slice vda (Dp.vals OX).length vdc).ownBlock = some g → g ≠ TA ∧ g ≠ TB := fun g hg => ⟨HD1.out.ne (by simpa using HA.out) (by decide) g hg, HD1.out.ne HB.out (by decide) g hg⟩
              refine ⟨HA5.out.keep k6 (fun e => hAB e), by simpa using r6, (HT1.out.keep k5 (fun g hg e => (hTAt g hg).1 e)).keep k6 (fun g hg e => (hTAt g hg).2 e), ?_, (HD1.out.keep k5 (fun g hg e => (hTAd g hg).1 e)).keep k6 (fun g hg e => (hTAd g hg).2 e), HT3.out, HD2.out, (HSF.out.next k5 (fun g hg e => by omega)).next k6 (fun g hg e => by omega)⟩
              have h5 := HXX.out.keep k5 (fun g e hg _ e2 => absurd (by rw [e2] at hg; exact hg.ne (by simpa using HA.out) (by decide) rfl) id)
              exact h5.keep k6 (fun g e hg _ e2 => absurd (by rw [e2] at hg; exact hg.ne (by simpa using HB5.out) (by decide) rfl) id)
            clear r6 k6 k5 HA HB HA5 HB5 HT1 HD1 HT3 HD2 HXX HSF z5 z6 hAB zA2 zB2
            go_wp2
            go_meet
            case rel => exact ⟨TA, TB, _, _, xs, rfl, rfl, HF⟩
        · refine Dp.wp_alloc_row 117 rfl _ zeroAcc ?_
          intro x2 rA zA k2
          clear zA
          obtain ⟨TA, hTA⟩ : ∃ T, T = x1.heap.size := ⟨_, rfl⟩
          rw [← hTA] at rA
          have hS2 := hS1.trans k2
          refine hK _ _ ⟨fun _ => hS2, ?_⟩
          clear hK K
          rw [← hTA]
          have HTAA := Hid.mk_ hTA
          clear hTA
          try simp only [Act.put, List.getElem_toArray, List.getElem_cons_zero, List.getElem_cons_succ, List.setIfInBounds_toArray, List.set_cons_zero, List.set_cons_succ]
          refine Dp.wpAnyL_both 5 7 rfl rfl (by kernel_rfl) (by rfl) (by rfl) (fun K hK => ?_) (fun K hK => ?_)
          · go_simp
            refine (HDO.out _ hS2).mono ?_
            rintro e x3 ⟨vd, rfl, hd1, hd2, k3⟩
            have hS3 := hS2.trans k3
            refine hK _ _ ⟨fun _ => hS3, ?_⟩
            clear hK K
            try simp only [Act.put, List.getElem_toArray, List.getElem_cons_zero, List.getElem_cons_succ, List.setIfInBounds_toArray, List.set_cons_zero, List.set_cons_succ]
            refine Dp.wpAnyL_one 7 rfl (by kernel_rfl) (by rfl) (fun K hK => ?_)
            refine Dp.wp_alloc_row 111 rfl _ zeroDeed ?_
            intro x4 rB zB k4
            clear zB
            obtain ⟨TB, hTB⟩ : ∃ T, T = x3.heap.size := ⟨_, rfl⟩
            rw [← hTB] at rB
            have hS4 := hS3.trans k4
            refine hK _ _ ⟨fun _ => hS4, ?_⟩
            clear hK K
            rw [← hTB]
            have HTBB := Hid.mk_ hTB
            clear hTB
            try simp only [Act.put, List.getElem_toArray, List.getElem_cons_zero, List.getElem_cons_succ, List.setIfInBounds_toArray, List.set_cons_zero, List.set_cons_succ]
            refine Dp.wpAnyL_rest (by kernel_rfl) ?_
            refine Dp.wpAny_tail 8 rfl (by kernel_rfl) ?_
            simp only [List.drop_succ_cons, List.drop_zero]
            have HA := Hid.mk_ (Dp.row_nil (rA.keep (k3.trans k4) (fun e => e)))
            have HB := Hid.mk_ rB
            have HT1 := Hid.mk_ (ht1.keep ((k2.trans k3).trans k4) (fun _ _ e => e))
            have HT2 := Hid.mk_ (ht2.keep ((k2.trans k3).trans k4) (fun _ _ _ _ e => e))
            have HD1 := Hid.mk_ (hd1.keep k4 (fun _ _ e => e))
            have b1 : x0.heap.size ≤ x1.heap.size := k1.size
            have b2 : x1.heap.size ≤ x2.heap.size := k2.size
            have b3 : x2.heap.size ≤ x3.heap.size := k3.size
            have b4 : x3.heap.size ≤ x4.heap.size := k4.size
            have HT3 : Hid (∀ g, vt.ownBlock = some g → x0.heap.size ≤ g) := fun g hg => by have := ht3 g hg; omega
            have HD2 : Hid (∀ g, vd.ownBlock = some g → x0.heap.size ≤ g) := fun g hg => by have := hd2 g hg; omega
            have HXX : Hid (Dp.TextsAt x0 x4 xs (Dp.heardTexts S l)) := ⟨HT2.out.1, fun i hi => by
              obtain ⟨v, e1, e2, e3⟩ := HT2.out.2 i hi
              exact ⟨v, e1, e2, fun g hg => by have := e3 g hg; omega⟩⟩
            have hAB : TA ≠ TB := HA.out.ne (Dp.row_nil HB.out) (by decide)
            have HSF := Hid.mk_ hS4
            obtain ⟨vta, vtc, evt⟩ := HT1.out.isSlice
            subst evt
            obtain ⟨vda, vdc, evd⟩ := HD1.out.isSlice
            subst evd
            have zA2 : x0.heap.size ≤ TA := by have := HTAA.out; omega
            have zB2 : x0.heap.size ≤ TB := by have := HTBB.out; omega
            clear rA rB HTAA HTBB ht1 ht2 ht3 hd1 hd2 k1 k2 k3 k4 hS1 hS2 hS3 hS4 HT2 b1 b2 b3 b4
            refine Dp.wpList_store_in rfl 117 _ _ rfl TA 0 rfl (Dp.accCells (.slice vta xs.length vtc) C1 C2) rfl 117 [] (Dp.accCells (.slice none 0 0) 0 0) [] HA.out rfl rfl (by rw [sizeAcc]; rfl) (Dp.accCells_one _ _ _ rfl) ?_
            intro x5 r5 z5 k5
            have HA5 : Hid (Dp.Row x5 TA 117 (Dp.accCells (.slice vta xs.length vtc) C1 C2)) := by unfold Hid; simpa using r5
            have HB5 := Hid.mk_ (Dp.row_nil (HB.out.keep k5 (fun e => hAB e.symm)))
            clear r5
            refine Dp.wpList_store_in rfl 111 _ _ rfl TB 0 rfl (Dp.deedCells (.slice vda (Dp.vals OX).length vdc) SA ME) rfl 111 [] (Dp.deedCells (.slice none 0 0) 0 0) [] HB5.out rfl rfl (by rw [sizeDeed]; rfl) (by intro v hv; simp [Dp.deedCells] at hv; rcases hv with rfl | rfl | rfl <;> rfl) ?_
            intro x6 r6 z6 k6
            have HF : Hid (Dp.Coll x0 x6 TA TB (.slice vta xs.length vtc) (.slice vda (Dp.vals OX).length vdc) xs (Dp.heardTexts S l) OX C1 C2 SA ME) := by
              have hTAt : ∀ g, (Value.slice vta xs.length vtc).ownBlock = some g → g ≠ TA ∧ g ≠ TB := fun g hg => ⟨HT1.out.ne (by simpa using HA.out) (by decide) g hg, HT1.out.ne HB.out (by decide) g hg⟩
              have hTAd : ∀ g, (Value.slice vda (Dp.vals OX).length vdc).ownBlock = some g → g ≠ TA ∧ g ≠ TB := fun g hg => ⟨HD1.out.ne (by simpa using HA.out) (by decide) g hg, HD1.out.ne HB.out (by decide) g hg⟩
              refine ⟨HA5.out.keep k6 (fun e => hAB e), by simpa using r6, (HT1.out.keep k5 (fun g hg e => (hTAt g hg).1 e)).keep k6 (fun g hg e => (hTAt g hg).2 e), ?_, (HD1.out.keep k5 (fun g hg e => (hTAd g hg).1 e)).keep k6 (fun g hg e => (hTAd g hg).2 e), HT3.out, HD2.out, (HSF.out.next k5 (fun g hg e => by omega)).next k6 (fun g hg e => by omega)⟩
              have h5 := HXX.out.keep k5 (fun g e hg _ e2 => absurd (by rw [e2] at hg; exact hg.ne (by simpa using HA.out) (by decide) rfl) id)
              exact h5.keep k6 (fun g e hg _ e2 => absurd (by rw [e2] at hg; exact hg.ne (by simpa using HB5.out) (by decide) rfl) id)
            clear r6 k6 k5 HA HB HA5 HB5 HT1 HD1 HT3 HD2 HXX HSF z5 z6 hAB zA2 zB2
            go_wp2
            go_meet
            case rel => exact ⟨TA, TB, _, _, xs, rfl, rfl, HF⟩
          · refine Dp.wp_alloc_row 111 rfl _ zeroDeed ?_
            intro x3 rB zB k3
            clear zB
            obtain ⟨TB, hTB⟩ : ∃ T, T = x2.heap.size := ⟨_, rfl⟩
            rw [← hTB] at rB
            have hS3 := hS2.trans k3
            refine hK _ _ ⟨fun _ => hS3, ?_⟩
            clear hK K
            rw [← hTB]
            have HTBB := Hid.mk_ hTB
            clear hTB
            try simp only [Act.put, List.getElem_toArray, List.getElem_cons_zero, List.getElem_cons_succ, List.setIfInBounds_toArray, List.set_cons_zero, List.set_cons_succ]
            refine Dp.wpAnyL_one 5 rfl (by kernel_rfl) (by rfl) (fun K hK => ?_)
            go_simp
            refine (HDO.out _ hS3).mono ?_
            rintro e x4 ⟨vd, rfl, hd1, hd2, k4⟩
            have hS4 := hS3.trans k4
            refine hK _ _ ⟨fun _ => hS4, ?_⟩
            clear hK K
            try simp only [Act.put, List.getElem_toArray, List.getElem_cons_zero, List.getElem_cons_succ, List.setIfInBounds_toArray, List.set_cons_zero, List.set_cons_succ]
            refine Dp.wpAnyL_rest (by kernel_rfl) ?_
            refine Dp.wpAny_tail 8 rfl (by kernel_rfl) ?_
            simp only [List.drop_succ_cons, List.drop_zero]
            have HA := Hid.mk_ (Dp.row_nil (rA.keep (k3.trans k4) (fun e => e)))
            have HB := Hid.mk_ (rB.keep k4 (fun e => e))
            have HT1 := Hid.mk_ (ht1.keep ((k2.trans k3).trans k4) (fun _ _ e => e))
            have HT2 := Hid.mk_ (ht2.keep ((k2.trans k3).trans k4) (fun _ _ _ _ e => e))
            have HD1 := Hid.mk_ hd1
            have b1 : x0.heap.size ≤ x1.heap.size := k1.size
            have b2 : x1.heap.size ≤ x2.heap.size := k2.size
            have b3 : x2.heap.size ≤ x3.heap.size := k3.size
            have b4 : x3.heap.size ≤ x4.heap.size := k4.size
            have HT3 : Hid (∀ g, vt.ownBlock = some g → x0.heap.size ≤ g) := fun g hg => by have := ht3 g hg; omega
            have HD2 : Hid (∀ g, vd.ownBlock = some g → x0.heap.size ≤ g) := fun g hg => by have := hd2 g hg; omega
            have HXX : Hid (Dp.TextsAt x0 x4 xs (Dp.heardTexts S l)) := ⟨HT2.out.1, fun i hi => by
              obtain ⟨v, e1, e2, e3⟩ := HT2.out.2 i hi
              exact ⟨v, e1, e2, fun g hg => by have := e3 g hg; omega⟩⟩
            have hAB : TA ≠ TB := HA.out.ne (Dp.row_nil HB.out) (by decide)
            have HSF := Hid.mk_ hS4
            obtain ⟨vta, vtc, evt⟩ := HT1.out.isSlice
            subst evt
            obtain ⟨vda, vdc, evd⟩ := HD1.out.isSlice
            subst evd
            have zA2 : x0.heap.size ≤ TA := by have := HTAA.out; omega
            have zB2 : x0.heap.size ≤ TB := by have := HTBB.out; omega
            clear rA rB HTAA HTBB ht1 ht2 ht3 hd1 hd2 k1 k2 k3 k4 hS1 hS2 hS3 hS4 HT2 b1 b2 b3 b4
            refine Dp.wpList_store_in rfl 117 _ _ rfl TA 0 rfl (Dp.accCells (.slice vta xs.length vtc) C1 C2) rfl 117 [] (Dp.accCells (.slice none 0 0) 0 0) [] HA.out rfl rfl (by rw [sizeAcc]; rfl) (Dp.accCells_one _ _ _ rfl) ?_
            intro x5 r5 z5 k5
            have HA5 : Hid (Dp.Row x5 TA 117 (Dp.accCells (.slice vta xs.length vtc) C1 C2)) := by unfold Hid; simpa using r5
            have HB5 := Hid.mk_ (Dp.row_nil (HB.out.keep k5 (fun e => hAB e.symm)))
            clear r5
            refine Dp.wpList_store_in rfl 111 _ _ rfl TB 0 rfl (Dp.deedCells (.slice vda (Dp.vals OX).length vdc) SA ME) rfl 111 [] (Dp.deedCells (.slice none 0 0) 0 0) [] HB5.out rfl rfl (by rw [sizeDeed]; rfl) (by intro v hv; simp [Dp.deedCells] at hv; rcases hv with rfl | rfl | rfl <;> rfl) ?_
            intro x6 r6 z6 k6
            have HF : Hid (Dp.Coll x0 x6 TA TB (.slice vta xs.length vtc) (.slice vda (Dp.vals OX).length vdc) xs (Dp.heardTexts S l) OX C1 C2 SA ME) := by
              have hTAt : ∀ g, (Value.slice vta xs.length vtc).ownBlock = some g → g ≠ TA ∧ g ≠ TB := fun g hg => ⟨HT1.out.ne (by simpa using HA.out) (by decide) g hg, HT1.out.ne HB.out (by decide) g hg⟩
              have hTAd : ∀ g, (Value.slice vda (Dp.vals OX).length vdc).ownBlock = some g → g ≠ TA ∧ g ≠ TB := fun g hg => ⟨HD1.out.ne (by simpa using HA.out) (by decide) g hg, HD1.out.ne HB.out (by decide) g hg⟩
              refine ⟨HA5.out.keep k6 (fun e => hAB e), by simpa using r6, (HT1.out.keep k5 (fun g hg e => (hTAt g hg).1 e)).keep k6 (fun g hg e => (hTAt g hg).2 e), ?_, (HD1.out.keep k5 (fun g hg e => (hTAd g hg).1 e)).keep k6 (fun g hg e => (hTAd g hg).2 e), HT3.out, HD2.out, (HSF.out.next k5 (fun g hg e => by omega)).next k6 (fun g hg e => by omega)⟩
              have h5 := HXX.out.keep k5 (fun g e hg _ e2 => absurd (by rw [e2] at hg; exact hg.ne (by simpa using HA.out) (by decide) rfl) id)
              exact h5.keep k6 (fun g e hg _ e2 => absurd (by rw [e2] at hg; exact hg.ne (by simpa using HB5.out) (by decide) rfl) id)
            clear r6 k6 k5 HA HB HA5 HB5 HT1 HD1 HT3 HD2 HXX HSF z5 z6 hAB zA2 zB2
            go_wp2
            go_meet
            case rel => exact ⟨TA, TB, _, _, xs, rfl, rfl, HF⟩
        · refine Dp.wp_alloc_row 111 rfl _ zeroDeed ?_
          intro x2 rB zB k2
          clear zB
          obtain ⟨TB, hTB⟩ : ∃ T, T = x1.heap.size := ⟨_, rfl⟩
          rw [← hTB] at rB
          have hS2 := hS1.trans k2
          refine hK _ _ ⟨fun _ => hS2, ?_⟩
          clear hK K
          rw [← hTB]
          have HTBB := Hid.mk_ hTB
          clear hTB
          try simp only [Act.put, List.getElem_toArray, List.getElem_cons_zero, List.getElem_cons_succ, List.setIfInBounds_toArray, List.set_cons_zero, List.set_cons_succ]
          refine Dp.wpAnyL_both 5 6 rfl rfl (by kernel_rfl) (by rfl) (by rfl) (fun K hK => ?_) (fun K hK => ?_)
          · go_simp
            refine (HDO.out _ hS2).mono ?_
            rintro e x3 ⟨vd, rfl, hd1, hd2, k3⟩
            have hS3 := hS2.trans k3
            refine hK _ _ ⟨fun _ => hS3, ?_⟩
            clear hK K
            try simp only [Act.put, List.getElem_toArray, List.getElem_cons_zero, List.getElem_cons_succ, List.setIfInBounds_toArray, List.set_cons_zero, List.set_cons_succ]
            refine Dp.wpAnyL_one 6 rfl (by kernel_rfl) (by rfl) (fun K hK => ?_)
            refine Dp.wp_alloc_row 117 rfl _ zeroAcc ?_
            intro x4 rA zA k4
            clear zA
            obtain ⟨TA, hTA⟩ : ∃ T, T = x3.heap.size := ⟨_, rfl⟩
            rw [← hTA] at rA
            have hS4 := hS3.trans k4
            refine hK _ _ ⟨fun _ => hS4, ?_⟩
            clear hK K
            rw [← hTA]
            have HTAA := Hid.mk_ hTA
            clear hTA
            try simp only [Act.put, List.getElem_toArray, List.getElem_cons_zero, List.getElem_cons_succ, List.setIfInBounds_toArray, List.set_cons_zero, List.set_cons_succ]
            refine Dp.wpAnyL_rest (by kernel_rfl) ?_
            refine Dp.wpAny_tail 8 rfl (by kernel_rfl) ?_
            simp only [List.drop_succ_cons, List.drop_zero]
            have HA := Hid.mk_ (Dp.row_nil rA)
            have HB := Hid.mk_ (rB.keep (k3.trans k4) (fun e => e))
            have HT1 := Hid.mk_ (ht1.keep ((k2.trans k3).trans k4) (fun _ _ e => e))
            have HT2 := Hid.mk_ (ht2.keep ((k2.trans k3).trans k4) (fun _ _ _ _ e => e))
            have HD1 := Hid.mk_ (hd1.keep k4 (fun _ _ e => e))
            have b1 : x0.heap.size ≤ x1.heap.size := k1.size
            have b2 : x1.heap.size ≤ x2.heap.size := k2.size
            have b3 : x2.heap.size ≤ x3.heap.size := k3.size
            have b4 : x3.heap.size ≤ x4.heap.size := k4.size
            have HT3 : Hid (∀ g, vt.ownBlock = some g → x0.heap.size ≤ g) := fun g hg => by have := ht3 g hg; omega
            have HD2 : Hid (∀ g, vd.ownBlock = some g → x0.heap.size ≤ g) := fun g hg => by have := hd2 g hg; omega
            have HXX : Hid (Dp.TextsAt x0 x4 xs (Dp.heardTexts S l)) := ⟨HT2.out.1, fun i hi => by
              obtain ⟨v, e1, e2, e3⟩ := HT2.out.2 i hi
              exact ⟨v, e1, e2, fun g hg => by have := e3 g hg; omega⟩⟩
            have hAB : TA ≠ TB := HA.out.ne (Dp.row_nil HB.out) (by decide)
            have HSF := Hid.mk_ hS4
            obtain ⟨vta, vtc, evt⟩ := HT1.out.isSlice
            subst evt
            obtain ⟨vda, vdc, evd⟩ := HD1.out.isSlice
            subst evd
            have zA2 : x0.heap.size ≤ TA := by have := HTAA.out; omega
            have zB2 : x0.heap.size ≤ TB := by have := HTBB.out; omega
            clear rA rB HTAA HTBB ht1 ht2 ht3 hd1 hd2 k1 k2 k3 k4 hS1 hS2 hS3 hS4 HT2 b1 b2 b3 b4
            refine Dp.wpList_store_in rfl 117 _ _ rfl TA 0 rfl (Dp.accCells (.slice vta xs.length vtc) C1 C2) rfl 117 [] (Dp.accCells (.slice none 0 0) 0 0) [] HA.out rfl rfl (by rw [sizeAcc]; rfl) (Dp.accCells_one _ _ _ rfl) ?_
            intro x5 r5 z5 k5
            have HA5 : Hid (Dp.Row x5 TA 117 (Dp.accCells (.slice vta xs.length vtc) C1 C2)) := by unfold Hid; simpa using r5
            have HB5 := Hid.mk_ (Dp.row_nil (HB.out.keep k5 (fun e => hAB e.symm)))
            clear r5
            refine Dp.wpList_store_in rfl 111 _ _ rfl TB 0 rfl (Dp.deedCells (.slice vda (Dp.vals OX).length vdc) SA ME) rfl 111 [] (Dp.deedCells (.slice none 0 0) 0 0) [] HB5.out rfl rfl (by rw [sizeDeed]; rfl) (by intro v hv; simp [Dp.deedCells] at hv; rcases hv with rfl | rfl | rfl <;> rfl) ?_
            intro x6 r6 z6 k6
            have HF : Hid (Dp.Coll x0 x6 TA TB (.slice vta xs.length vtc) (.slice vda (Dp.vals OX).length vdc) xs (Dp.heardTexts S l) OX C1 C2 SA ME) := by
              have hTAt : ∀ g, (Value.slice vta xs.length vtc).ownBlock = some g → g ≠ TA ∧ g ≠ TB := fun g hg => ⟨HT1.out.ne (by simpa using HA.out) (by decide) g hg, HT1.out.ne HB.out (by decide) g hg⟩
              have hTAd : ∀ g, (Value.slice vda (Dp.vals OX).length vdc).ownBlock = some g → g ≠ TA ∧ g ≠ TB := fun g hg => ⟨HD1.out.ne (by simpa using HA.out) (by decide) g hg, HD1.out.ne HB.out (by decide) g hg⟩
              refine ⟨HA5.out.keep k6 (fun e => hAB e), by simpa using r6, (HT1.out.keep k5 (fun g hg e => (hTAt g hg).1 e)).keep k6 (fun g hg e => (hTAt g hg).2 e), ?_, (HD1.out.keep k5 (fun g hg e => (hTAd g hg).1 e)).keep k6 (fun g hg e => (hTAd g hg).2 e), HT3.out, HD2.out, (HSF.out.next k5 (fun g hg e => by omega)).next k6 (fun g hg e => by omega)⟩
              have h5 := HXX.out.keep k5 (fun g e hg _ e2 => absurd (by rw [e2] at hg; exact hg.ne (by simpa using HA.out) (by decide) rfl) id)
              exact h5.keep k6 (fun g e hg _ e2 => absurd (by rw [e2] at hg; exact hg.ne (by simpa using HB5.out) (by decide) rfl) id)
            clear r6 k6 k5 HA HB HA5 HB5 HT1 HD1 HT3 HD2 HXX HSF z5 z6 hAB zA2 zB2
            go_wp2
            go_meet
            case rel => exact ⟨TA, TB, _, _, xs, rfl, rfl, HF⟩
          · refine Dp.wp_alloc_row 117 rfl _ zeroAcc ?_
            intro x3 rA zA k3
            clear zA
            obtain ⟨TA, hTA⟩ : ∃ T, T = x2.heap.size := ⟨_, rfl⟩
            rw [← hTA] at rA
            have hS3 := hS2.trans k3
            refine hK _ _ ⟨fun _ => hS3, ?_⟩
            clear hK K
            rw [← hTA]
            have HTAA := Hid.mk_ hTA
            clear hTA
            try simp only [Act.put, List.getElem_toArray, List.getElem_cons_zero, List.getElem_cons_succ, List.setIfInBounds_toArray, List.set_cons_zero, List.set_cons_succ]
            refine Dp.wpAnyL_one 5 rfl (by kernel_rfl) (by rfl) (fun K hK => ?_)
            go_simp
            refine (HDO.out _ hS3).mono ?_
            rintro e x4 ⟨vd, rfl, hd1, hd2, k4⟩
            have hS4 := hS3.trans k4
            refine hK _ _ ⟨fun _ => hS4, ?_⟩
            clear hK K
            try simp only [Act.put, List.getElem_toArray, List.getElem_cons_zero, List.getElem_cons_succ, List.setIfInBounds_toArray, List.set_cons_zero, List.set_cons_succ]
            refine Dp.wpAnyL_rest (by kernel_rfl) ?_
            refine Dp.wpAny_tail 8 rfl (by kernel_rfl) ?_
            simp only [List.drop_succ_cons, List.drop_zero]
            have HA := Hid.mk_ (Dp.row_nil (rA.keep k4 (fun e => e)))
            have HB := Hid.mk_ (rB.keep (k3.trans k4) (fun e => e))
            have HT1 := Hid.mk_ (ht1.keep ((k2.trans k3).trans k4) (fun _ _ e => e))
            have HT2 := Hid.mk_ (ht2.keep ((k2.trans k3).trans k4) (fun _ _ _ _ e => e))
            have HD1 := Hid.mk_ hd1
            have b1 : x0.heap.size ≤ x1.heap.size := k1.size
            have b2 : x1.heap.size ≤ x2.heap.size := k2.size
            have b3 : x2.heap.size ≤ x3.heap.size := k3.size
            have b4 : x3.heap.size ≤ x4.heap.size := k4.size
            have HT3 : Hid (∀ g, vt.ownBlock = some g → x0.heap.size ≤ g) := fun g hg => by have := ht3 g hg; omega
            have HD2 : Hid (∀ g, vd.ownBlock = some g → x0.heap.size ≤ g) := fun g hg => by have := hd2 g hg; omega
            have HXX : Hid (Dp.TextsAt x0 x4 xs (Dp.heardTexts S l)) := ⟨HT2.out.1, fun i hi => by
              obtain ⟨v, e1, e2, e3⟩ := HT2.out.2 i hi
              exact ⟨v, e1, e2, fun g hg => by have := e3 g hg; omega⟩⟩
            have hAB : TA ≠ TB := HA.out.ne (Dp.row_nil HB.out) (by decide)
            have HSF := Hid.mk_ hS4
            obtain ⟨vta, vtc, evt⟩ := HT1.out.isSlice
            subst evt
            obtain ⟨vda, vdc, evd⟩ := HD1.out.isSlice
            subst evd
            have zA2 : x0.heap.size ≤ TA := by have := HTAA.out; omega
            have zB2 : x0.heap.size ≤ TB := by have := HTBB.out; omega
            clear rA rB HTAA HTBB ht1 ht2 ht3 hd1 hd2 k1 k2 k3 k4 hS1 hS2 hS3 hS4 HT2 b1 b2 b3 b4
            refine Dp.wpList_store_in rfl 117 _ _ rfl TA 0 rfl (Dp.accCells (.slice vta xs.length vtc) C1 C2) rfl 117 [] (Dp.accCells (.slice none 0 0) 0 0) [] HA.out rfl rfl (by rw [sizeAcc]; rfl) (Dp.accCells_one _ _ _ rfl) ?_
            intro x5 r5 z5 k5
            have HA5 : Hid (Dp.Row x5 TA 117 (Dp.accCells (.slice vta xs.length vtc) C1 C2)) := by unfold Hid; simpa using r5
            have HB5 := Hid.mk_ (Dp.row_nil (HB.out.keep k5 (fun e => hAB e.symm)))
            clear r5
            refine Dp.wpList_store_in rfl 111 _ _ rfl TB 0 rfl (Dp.deedCells (.slice vda (Dp.vals OX).length vdc) SA ME) rfl 111 [] (Dp.deedCells (.slice none 0 0) 0 0) [] HB5.out rfl rfl (by rw [sizeDeed]; rfl) (by intro v hv; simp [Dp.deedCells] at hv; rcases hv with rfl | rfl | rfl <;> rfl) ?_
            intro x6 r6 z6 k6
            have HF : Hid (Dp.Coll x0 x6 TA TB (.slice vta xs.length vtc) (.slice vda (Dp.vals OX).length vdc) xs (Dp.heardTexts S l) OX C1 C2 SA ME) := by
              have hTAt : ∀ g, (Value.slice vta xs.length vtc).ownBlock = some g → g ≠ TA ∧ g ≠ TB := fun g hg => ⟨HT1.out.ne (by simpa using HA.out) (by decide) g hg, HT1.out.ne HB.out (by decide) g hg⟩
              have hTAd : ∀ g, (Value.slice vda (Dp.vals OX).length vdc).ownBlock = some g → g ≠ TA ∧ g ≠ TB := fun g hg => ⟨HD1.out.ne (by simpa using HA.out) (by decide) g hg, HD1.out.ne HB.out (by decide) g hg⟩
              refine ⟨HA5.out.keep k6 (fun e => hAB e), by simpa using r6, (HT1.out.keep k5 (fun g hg e => (hTAt g hg).1 e)).keep k6 (fun g hg e => (hTAt g hg).2 e), ?_, (HD1.out.keep k5 (fun g hg e => (hTAd g hg).1 e)).keep k6 (fun g hg e => (hTAd g hg).2 e), HT3.out, HD2.out, (HSF.out.next k5 (fun g hg e => by omega)).next k6 (fun g hg e => by omega)⟩
              have h5 := HXX.out.keep k5 (fun g e hg _ e2 => absurd (by rw [e2] at hg; exact hg.ne (by simpa using HA.out) (by decide) rfl) id)
              exact h5.keep k6 (fun g e hg _ e2 => absurd (by rw [e2] at hg; exact hg.ne (by simpa using HB5.out) (by decide) rfl) id)
            clear r6 k6 k5 HA HB HA5 HB5 HT1 HD1 HT3 HD2 HXX HSF z5 z6 hAB zA2 zB2
            go_wp2
            go_meet
            case rel => exact ⟨TA, TB, _, _, xs, rfl, rfl, HF⟩
      · refine Dp.wp_alloc_row 117 rfl _ zeroAcc ?_
        intro x1 rA zA k1
        clear zA
        obtain ⟨TA, hTA⟩ : ∃ T, T = x0.heap.size := ⟨_, rfl⟩
        rw [← hTA] at rA
        have hS1 := hS0.trans k1
        refine hK _ _ ⟨fun _ => hS1, ?_⟩
        clear hK K
        rw [← hTA]
        have HTAA := Hid.mk_ hTA
        clear hTA
        try simp only [Act.put, List.getElem_toArray, List.getElem_cons_zero, List.getElem_cons_succ, List.setIfInBounds_toArray, List.set_cons_zero, List.set_cons_succ]
        refine Dp.wpAnyL_both 2 7 rfl rfl (by kernel_rfl) (by rfl) (by rfl) (fun K hK => ?_) (fun K hK => ?_)
        · go_simp
          refine (HH.out _ hS1).mono ?_
          rintro e x2 ⟨vt, xs, rfl, ht1, ht2, ht3, k2⟩
          have hS2 := hS1.trans k2
          refine hK _ _ ⟨fun _ => hS2, ?_⟩
          clear hK K
          try simp only [Act.put, List.getElem_toArray, List.getElem_cons_zero, List.getElem_cons_succ, List.setIfInBounds_toArray, List.set_cons_zero, List.set_cons_succ]
          refine Dp.wpAnyL_both 5 7 rfl rfl (by kernel_rfl) (by rfl) (by rfl) (fun K hK => ?_) (fun K hK => ?_)
          · go_simp
            refine (HDO.out _ hS2).mono ?_
            rintro e x3 ⟨vd, rfl, hd1, hd2, k3⟩
            have hS3 := hS2.trans k3
            refine hK _ _ ⟨fun _ => hS3, ?_⟩
            clear hK K
            try simp only [Act.put, List.getElem_toArray, List.getElem_cons_zero, List.getElem_cons_succ, List.setIfInBounds_toArray, List.set_cons_zero, List.set_cons_succ]
            refine Dp.wpAnyL_one 7 rfl (by kernel_rfl) (by rfl) (fun K hK => ?_)
            refine Dp.wp_alloc_row 111 rfl _ zeroDeed ?_
            intro x4 rB zB k4
            clear zB
            obtain ⟨TB, hTB⟩ : ∃ T, T = x3.heap.size := ⟨_, rfl⟩
            rw [← hTB] at rB
            have hS4 := hS3.trans k4
            refine hK _ _ ⟨fun _ => hS4, ?_⟩
            clear hK K
            rw [← hTB]
            have HTBB := Hid.mk_ hTB
            clear hTB
            try simp only [Act.put, List.getElem_toArray, List.getElem_cons_zero, List.getElem_cons_succ, List.setIfInBounds_toArray, List.set_cons_zero, List.set_cons_succ]
            refine Dp.wpAnyL_rest (by kernel_rfl) ?_
            refine Dp.wpAny_tail 8 rfl (by kernel_rfl) ?_
            simp only [List.drop_succ_cons, List.drop_zero]
            have HA := Hid.mk_ (Dp.row_nil (rA.keep ((k2.trans k3).trans k4) (fun e => e)))
            have HB := Hid.mk_ rB
            have HT1 := Hid.mk_ (ht1.keep (k3.trans k4) (fun _ _ e => e))
            have HT2 := Hid.mk_ (ht2.keep (k3.trans k4) (fun _ _ _ _ e => e))
            have HD1 := Hid.mk_ (hd1.keep k4 (fun _ _ e => e))
            have b1 : x0.heap.size ≤ x1.heap.size := k1.size
            have b2 : x1.heap.size ≤ x2.heap.size := k2.size
            have b3 : x2.heap.size ≤ x3.heap.size := k3.size
            have b4 : x3.heap.size ≤ x4.heap.size := k4.size
            have HT3 : Hid (∀ g, vt.ownBlock = some g → x0.heap.size ≤ g) := fun g hg => by have := ht3 g hg; omega
            have HD2 : Hid (∀ g, vd.ownBlock = some g → x0.heap.size ≤ g) := fun g hg => by have := hd2 g hg; omega
            have HXX : Hid (Dp.TextsAt x0 x4 xs (Dp.heardTexts S l)) := ⟨HT2.out.1, fun i hi => by
              obtain ⟨v, e1, e2, e3⟩ := HT2.out.2 i hi
              exact ⟨v, e1, e2, fun g hg => by have := e3 g hg; omega⟩⟩
            have hAB : TA ≠ TB := HA.out.ne (Dp.row_nil HB.out) (by decide)
            have HSF := Hid.mk_ hS4
            obtain ⟨vta, vtc, evt⟩ := HT1.out.isSlice
            subst evt
            obtain ⟨vda, vdc, evd⟩ := HD1.out.isSlice
            subst evd
            have zA2 : x0.heap.size ≤ TA := by have := HTAA.out; omega
            have zB2 : x0.heap.size ≤ TB := by have := HTBB.out; omega
            clear rA rB HTAA HTBB ht1 ht2 ht3 hd1 hd2 k1 k2 k3 k4 hS1 hS2 hS3 hS4 HT2 b1 b2 b3 b4
            refine Dp.wpList_store_in rfl 117 _ _ rfl TA 0 rfl (Dp.accCells (.slice vta xs.length vtc) C1 C2) rfl 117 [] (Dp.accCells (.slice none 0 0) 0 0) [] HA.out rfl rfl (by rw [sizeAcc]; rfl) (Dp.accCells_one _ _ _ rfl) ?_
            intro x5 r5 z5 k5
            have HA5 : Hid (Dp.Row x5 TA 117 (Dp.accCells (.slice vta xs.length vtc) C1 C2)) := by unfold Hid; simpa using r5
            have HB5 := Hid.mk_ (Dp.row_nil (HB.out.keep k5 (fun e => hAB e.symm)))
            clear r5
            refine Dp.wpList_store_in rfl 111 _ _ rfl TB 0 rfl (Dp.deedCells (.slice vda (Dp.vals OX).length vdc) SA ME) rfl 111 [] (Dp.deedCells (.slice none 0 0) 0 0) [] HB5.out rfl rfl (by rw [sizeDeed]; rfl) (by intro v hv; simp [Dp.deedCells] at hv; rcases hv with rfl | rfl | rfl <;> rfl) ?_
            intro x6 r6 z6 k6
            have HF : Hid (Dp.Coll x0 x6 TA TB (.slice vta xs.length vtc) (.slice vda (Dp.vals OX).length vdc) xs (Dp.heardTexts S l) OX C1 C2 SA ME) := by
              have hTAt : ∀ g, (Value.slice vta xs.length vtc).ownBlock = some g → g ≠ TA ∧ g ≠ TB := fun g hg => ⟨HT1.out.ne (by simpa using HA.out) (by decide) g hg, HT1.out.ne HB.out (by decide) g hg⟩
              have hTAd : ∀ g, (Value.slice vda (Dp.vals OX).length vdc).ownBlock = some g → g ≠ TA ∧ g ≠ TB := fun g hg => ⟨HD1.out.ne (by simpa using HA.out) (by decide) g hg, HD1.out.ne HB.out (by decide) g hg⟩
              refine ⟨HA5.out.keep k6 (fun e => hAB e), by simpa using r6, (HT1.out.keep k5 (fun g hg e => (hTAt g hg).1 e)).keep k6 (fun g hg e => (hTAt g hg).2 e), ?_, (HD1.out.keep k5 (fun g hg e => (hTAd g hg).1 e)).keep k6 (fun g hg e => (hTAd g hg).2 e), HT3.out, HD2.out, (HSF.out.next k5 (fun g hg e => by omega)).next k6 (fun g hg e => by omega)⟩
              have h5 := HXX.out.keep k5 (fun g e hg _ e2 => absurd (by rw [e2] at hg; exact hg.ne (by simpa using HA.out) (by decide) rfl) id)
              exact h5.keep k6 (fun g e hg _ e2 => absurd (by rw [e2] at hg; exact hg.ne (by simpa using HB5.out) (by decide) rfl) id)
            clear r6 k6 k5 HA HB HA5 HB5 HT1 HD1 HT3 HD2 HXX HSF z5 z6 hAB zA2 zB2
            go_wp2
            go_meet
            case rel => exact ⟨TA, TB, _, _, xs, rfl, rfl, HF⟩
          · refine Dp.wp_alloc_row 111 rfl _ zeroDeed ?_
            intro x3 rB zB k3
            clear zB
            obtain ⟨TB, hTB⟩ : ∃ T, T = x2.heap.size := ⟨_, rfl⟩
            rw [← hTB] at rB
            have hS3 := hS2.trans k3
            refine hK _ _ ⟨fun _ => hS3, ?_⟩
            clear hK K
            rw [← hTB]
            have HTBB := Hid.mk_ hTB
            clear hTB
            try simp only [Act.put, List.getElem_toArray, List.getElem_cons_zero, List.getElem_cons_succ, List.setIfInBounds_toArray, List.set_cons_zero, List.set_cons_succ]
            refine Dp.wpAnyL_one 5 rfl (by kernel_rfl) (by rfl) (fun K hK => ?_)
            go_simp
            refine (HDO.out _ hS3).mono ?_
            rintro e x4 ⟨vd, rfl, hd1, hd2, k4⟩
            have hS4 := hS3.trans k4
            refine hK _ _ ⟨fun _ => hS4, ?_⟩
            clear hK K
            try simp only [Act.put, List.getElem_toArray, List.getElem_cons_zero, List.getElem_cons_succ, List.setIfInBounds_toArray, List.set_cons_zero, List.set_cons_succ]
            refine Dp.wpAnyL_rest (by kernel_rfl) ?_
            refine Dp.wpAny_tail 8 rfl (by kernel_rfl) ?_
            simp only [List.drop_succ_cons, List.drop_zero]
            have HA := Hid.mk_ (Dp.row_nil (rA.keep ((k2.trans k3).trans k4) (fun e => e)))
            have HB := Hid.mk_ (rB.keep k4 (fun e => e))
            have HT1 := Hid.mk_ (ht1.keep (k3.trans k4) (fun _ _ e => e))
            have HT2 := Hid.mk_ (ht2.keep (k3.trans k4) (fun _ _ _ _ e => e))
            have HD1 := Hid.mk_ hd1
            have b1 : x0.heap.size ≤ x1.heap.size := k1.size
            have b2 : x1.heap.size ≤ x2.heap.size := k2.size
            have b3 : x2.heap.size ≤ x3.heap.size := k3.size
            have b4 : x3.heap.size ≤ x4.heap.size := k4.size
            have HT3 : Hid (∀ g, vt.ownBlock = some g → x0.heap.size ≤ g) := fun g hg => by have := ht3 g hg; omega
            have HD2 : Hid (∀ g, vd.ownBlock = some g → x0.heap.size ≤ g) := fun g hg => by have := hd2 g hg; omega
            have HXX : Hid (Dp.TextsAt x0 x4 xs (Dp.heardTexts S l)) := ⟨HT2.out.1, fun i hi => by
              obtain ⟨v, e1, e2, e3⟩ := HT2.out.2 i hi
              exact ⟨v, e1, e2, fun g hg => by have := e3 g hg; omega⟩⟩
            have hAB : TA ≠ TB := HA.out.ne (Dp.row_nil HB.out) (by decide)
            have HSF := Hid.mk_ hS4
            obtain ⟨vta, vtc, evt⟩ := HT1.out.isSlice
            subst evt
            obtain ⟨vda, vdc, evd⟩ := HD1.out.isSlice
            subst evd
            have zA2 : x0.heap.size ≤ TA := by have := HTAA.out; omega
            have zB2 : x0.heap.size ≤ TB := by have := HTBB.out; omega
            clear rA rB HTAA HTBB ht1 ht2 ht3 hd1 hd2 k1 k2 k3 k4 hS1 hS2 hS3 hS4 HT2 b1 b2 b3 b4
            refine Dp.wpList_store_in rfl 117 _ _ rfl TA 0 rfl (Dp.accCells (.slice vta xs.length vtc) C1 C2) rfl 117 [] (Dp.accCells (.slice none 0 0) 0 0) [] HA.out rfl rfl (by rw [sizeAcc]; rfl) (Dp.accCells_one _ _ _ rfl) ?_
            intro x5 r5 z5 k5
            have HA5 : Hid (Dp.Row x5 TA 117 (Dp.accCells (.slice vta xs.length vtc) C1 C2)) := by unfold Hid; simpa using r5
            have HB5 := Hid.mk_ (Dp.row_nil (HB.out.keep k5 (fun e => hAB e.symm)))
            clear r5
            refine Dp.wpList_store_in rfl 111 _ _ rfl TB 0 rfl (Dp.deedCells (.slice vda (Dp.vals OX).length vdc) SA ME) rfl 111 [] (Dp.deedCells (.slice none 0 0) 0 0) [] HB5.out rfl rfl (by rw [sizeDeed]; rfl) (by intro v hv; simp [Dp.deedCells] at hv; rcases hv with rfl | rfl | rfl <;> rfl) ?_
            intro x6 r6 z6 k6
            have HF : Hid (Dp.Coll x0 x6 TA TB (.slice vta xs.length vtc) (.slice vda (Dp.vals OX).length vdc) xs (Dp.heardTexts S l) OX C1 C2 SA ME) := by
              have hTAt : ∀ g, (Value.slice vta xs.length vtc).ownBlock = some g → g ≠ TA ∧ g ≠ TB := fun g hg => ⟨HT1.out.ne (by simpa using HA.out) (by decide) g hg, HT1.out.ne HB.out (by decide) g hg⟩
              have hTAd : ∀ g, (Value.slice vda (Dp.vals OX).length vdc).ownBlock = some g → g ≠ TA ∧ g ≠ TB := fun g hg => ⟨HD1.out.ne (by simpa using HA.out) (by decide) g hg, HD1.out.ne HB.out (by decide) g hg⟩
              refine ⟨HA5.out.keep k6 (fun e => hAB e), by simpa using r6, (HT1.out.keep k5 (fun g hg e => (hTAt g hg).1 e)).keep k6 (fun g hg e => (hTAt g hg).2 e), ?_, (HD1.out.keep k5 (fun g hg e => (hTAd g hg).1 e)).keep k6 (fun g hg e => (hTAd g hg).2 e), HT3.out, HD2.out, (HSF.out.next k5 (fun g hg e => by omega)).next k6 (fun g hg e => by omega)⟩
              have h5 := HXX.out.keep k5 (fun g e hg _ e2 => absurd (by rw [e2] at hg; exact hg.ne (by simpa using HA.out) (by decide) rfl) id)
              exact h5.keep k6 (fun g e hg _ e2 => absurd (by rw [e2] at hg; exact hg.ne (by simpa using HB5.out) (by decide) rfl) id)
            clear r6 k6 k5 HA HB HA5 HB5 HT1 HD1 HT3 HD2 HXX HSF z5 z6 hAB zA2 zB2
            go_wp2
            go_meet
            case rel => exact ⟨TA, TB, _, _, xs, rfl, rfl, HF⟩
        · refine Dp.wp_alloc_row 111 rfl _ zeroDeed ?_
          intro x2 rB zB k2
          clear zB
          obtain ⟨TB, hTB⟩ : ∃ T, T = x1.heap.size := ⟨_, rfl⟩
          rw [← hTB] at rB
          have hS2 := hS1.trans k2
          refine hK _ _ ⟨fun _ => hS2, ?_⟩
          clear hK K
          rw [← hTB]
          have HTBB := Hid.mk_ hTB
          clear hTB
          try simp only [Act.put, List.getElem_toArray, List.getElem_cons_zero, List.getElem_cons_succ, List.setIfInBounds_toArray, List.set_cons_zero, List.set_cons_succ]
          refine Dp.wpAnyL_one 2 rfl (by kernel_rfl) (by rfl) (fun K hK => ?_)
          go_simp
          refine (HH.out _ hS2).mono ?_
          rintro e x3 ⟨vt, xs, rfl, ht1, ht2, ht3, k3⟩
          have hS3 := hS2.trans k3
          refine hK _ _ ⟨fun _ => hS3, ?_⟩
          clear hK K
          try simp only [Act.put, List.getElem_toArray, List.getElem_cons_zero, List.getElem_cons_succ, List.setIfInBounds_toArray, List.set_cons_zero, List.set_cons_succ]
          refine Dp.wpAnyL_one 5 rfl (by kernel_rfl) (by rfl) (fun K hK => ?_)
          go_simp
          refine (HDO.out _ hS3).mono ?_
          rintro e x4 ⟨vd, rfl, hd1, hd2, k4⟩
          have hS4 := hS3.trans k4
          refine hK _ _ ⟨fun _ => hS4, ?_⟩
          clear hK K
          try simp only [Act.put, List.getElem_toArray, List.getElem_cons_zero, List.getElem_cons_succ, List.setIfInBounds_toArray, List.set_cons_zero, List.set_cons_succ]
          refine Dp.wpAnyL_rest (by kernel_rfl) ?_
          refine Dp.wpAny_tail 8 rfl (by kernel_rfl) ?_
          simp only [List.drop_succ_cons, List.drop_zero]
          have HA := Hid.mk_ (Dp.row_nil (rA.keep ((k2.trans k3).trans k4) (fun e => e)))
          have HB := Hid.mk_ (rB.keep (k3.trans k4) (fun e => e))
          have HT1 := Hid.mk_ (ht1.keep k4 (fun _ _ e => e))
          have HT2 := Hid.mk_ (ht2.keep k4 (fun _ _ _ _ e => e))
          have HD1 := Hid.mk_ hd1
          have b1 : x0.heap.size ≤ x1.heap.size := k1.size
          have b2 : x1.heap.size ≤ x2.heap.size := k2.size
          have b3 : x2.heap.size ≤ x3.heap.size := k3.size
          have b4 : x3.heap.size ≤ x4.heap.size := k4.size
          have HT3 : Hid (∀ g, vt.ownBlock = some g → x0.heap.size ≤ g) := fun g hg => by have := ht3 g hg; omega
          have HD2 : Hid (∀ g, vd.ownBlock = some g → x0.heap.size ≤ g) := fun g hg => by have := hd2 g hg; omega
          have HXX : Hid (Dp.TextsAt x0 x4 xs (Dp.heardTexts S l)) := ⟨HT2.out.1, fun i hi => by
            obtain ⟨v, e1, e2, e3⟩ := HT2.out.2 i hi
            exact ⟨v, e1, e2, fun g hg => by have := e3 g hg; omega⟩⟩
          have hAB : TA ≠ TB := HA.out.ne (Dp.row_nil HB.out) (by decide)
          have HSF := Hid.mk_ hS4
          obtain ⟨vta, vtc, evt⟩ := HT1.out.isSlice
          subst evt
          obtain ⟨vda, vdc, evd⟩ := HD1.out.isSlice
          subst evd
          have zA2 : x0.heap.size ≤ TA := by have := HTAA.out; omega
          have zB2 : x0.heap.size ≤ TB := by have := HTBB.out; omega
          clear rA rB HTAA HTBB ht1 ht2 ht3 hd1 hd2 k1 k2 k3 k4 hS1 hS2 hS3 hS4 HT2 b1 b2 b3 b4
          refine Dp.wpList_store_in rfl 117 _ _ rfl TA 0 rfl (Dp.accCells (.slice vta xs.length vtc) C1 C2) rfl 117 [] (Dp.accCells (.slice none 0 0) 0 0) [] HA.out rfl rfl (by rw [sizeAcc]; rfl) (Dp.accCells_one _ _ _ rfl) ?_
          intro x5 r5 z5 k5
          have HA5 : Hid (Dp.Row x5 TA 117 (Dp.accCells (.slice vta xs.length vtc) C1 C2)) := by unfold Hid; simpa using r5
          have HB5 := Hid.mk_ (Dp.row_nil (HB.out.keep k5 (fun e => hAB e.symm)))
          clear r5
          refine Dp.wpList_store_in rfl 111 _ _ rfl TB 0 rfl (Dp.deedCells (.slice vda (Dp.vals OX).length vdc) SA ME) rfl 111 [] (Dp.deedCells (.slice none 0 0) 0 0) [] HB5.out rfl rfl (by rw [sizeDeed]; rfl) (by intro v hv; simp [Dp.deedCells] at hv; rcases hv with rfl | rfl | rfl <;> rfl) ?_
          intro x6 r6 z6 k6
          have HF : Hid (Dp.Coll x0 x6 TA TB (.slice vta xs.length vtc) (.slice vda (Dp.vals OX).length vdc) xs (Dp.heardTexts S l) OX C1 C2 SA ME) := by
            have hTAt : ∀ g, (Value.slice vta xs.length vtc).ownBlock = some g → g ≠ TA ∧ g ≠ TB := fun g hg => ⟨HT1.out.ne (by simpa using HA.out) (by decide) g hg, HT1.out.ne HB.out (by decide) g hg⟩
            have hTAd : ∀ g, (Value.slice vda (Dp.vals OX).length vdc).ownBlock = some g → g ≠ TA ∧ g ≠ TB := fun g hg => ⟨HD1.out.ne (by simpa using HA.out) (by decide) g hg, HD1.out.ne HB.out (by decide) g hg⟩
            refine ⟨HA5.out.keep k6 (fun e => hAB e), by simpa using r6, (HT1.out.keep k5 (fun g hg e => (hTAt g hg).1 e)).keep k6 (fun g hg e => (hTAt g hg).2 e), ?_, (HD1.out.keep k5 (fun g hg e => (hTAd g hg).1 e)).keep k6 (fun g hg e => (hTAd g hg).2 e), HT3.out, HD2.out, (HSF.out.next k5 (fun g hg e => by omega)).next k6 (fun g hg e => by omega)⟩
            have h5 := HXX.out.keep k5 (fun g e hg _ e2 => absurd (by rw [e2] at hg; exact hg.ne (by simpa using HA.out) (by decide) rfl) id)
            exact h5.keep k6 (fun g e hg _ e2 => absurd (by rw [e2] at hg; exact hg.ne (by simpa using HB5.out) (by decide) rfl) id)
          clear r6 k6 k5 HA HB HA5 HB5 HT1 HD1 HT3 HD2 HXX HSF z5 z6 hAB zA2 zB2
          go_wp2
          go_meet
          case rel => exact ⟨TA, TB, _, _, xs, rfl, rfl, HF⟩
      · refine Dp.wp_alloc_row 111 rfl _ zeroDeed ?_
        intro x1 rB zB k1
        clear zB
        obtain ⟨TB, hTB⟩ : ∃ T, T = x0.heap.size := ⟨_, rfl⟩
        rw [← hTB] at rB
        have hS1 := hS0.trans k1
        refine hK _ _ ⟨fun _ => hS1, ?_⟩
        clear hK K
        rw [← hTB]
        have HTBB := Hid.mk_ hTB
        clear hTB
        try simp only [Act.put, List.getElem_toArray, List.getElem_cons_zero, List.getElem_cons_succ, List.setIfInBounds_toArray, List.set_cons_zero, List.set_cons_succ]
        refine Dp.wpAnyL_both 2 6 rfl rfl (by kernel_rfl) (by rfl) (by rfl) (fun K hK => ?_) (fun K hK => ?_)
        · go_simp
          refine (HH.out _ hS1).mono ?_
          rintro e x2 ⟨vt, xs, rfl, ht1, ht2, ht3, k2⟩
          have hS2 := hS1.trans k2
          refine hK _ _ ⟨fun _ => hS2, ?_⟩
          clear hK K
          try simp only [Act.put, List.getElem_toArray, List.getElem_cons_zero, List.getElem_cons_succ, List.setIfInBounds_toArray, List.set_cons_zero, List.set_cons_succ]
          refine Dp.wpAnyL_both 5 6 rfl rfl (by kernel_rfl) (by rfl) (by rfl) (fun K hK => ?_) (fun K hK => ?_)
          · go_simp
            refine (HDO.out _ hS2).mono ?_
            rintro e x3 ⟨vd, rfl, hd1, hd2, k3⟩
            have hS3 := hS2.trans k3
            refine hK _ _ ⟨fun _ => hS3, ?_⟩
            clear hK K
            try simp only [Act.put, List.getElem_toArray, List.getElem_cons_zero, List.getElem_cons_succ, List.setIfInBounds_toArray, List.set_cons_zero, List.set_cons_succ]
            refine Dp.wpAnyL_one 6 rfl (by kernel_rfl) (by rfl) (fun K hK => ?_)
            refine Dp.wp_alloc_row 117 rfl _ zeroAcc ?_
            intro x4 rA zA k4
            clear zA
            obtain ⟨TA, hTA⟩ : ∃ T, T = x3.heap.size := ⟨_, rfl⟩
            rw [← hTA] at rA
            have hS4 := hS3.trans k4
            refine hK _ _ ⟨fun _ => hS4, ?_⟩
            clear hK K
            rw [← hTA]
            have HTAA := Hid.mk_ hTA
            clear hTA
            try simp only [Act.put, List.getElem_toArray, List.getElem_cons_zero, List.getElem_cons_succ, List.setIfInBounds_toArray, List.set_cons_zero, List.set_cons_succ]
            refine Dp.wpAnyL_rest (by kernel_rfl) ?_
            refine Dp.wpAny_tail 8 rfl (by kernel_rfl) ?_
            simp only [List.drop_succ_cons, List.drop_zero]
            have HA := Hid.mk_ (Dp.row_nil rA)
            have HB := Hid.mk_ (rB.keep ((k2.trans k3).trans k4) (fun e => e))
            have HT1 := Hid.mk_ (ht1.keep (k3.trans k4) (fun _ _ e => e))
            have HT2 := Hid.mk_ (ht2.keep (k3.trans k4) (fun _ _ _ _ e => e))
            have HD1 := Hid.mk_ (hd1.keep k4 (fun _ _ e => e))
            have b1 : x0.heap.size ≤ x1.heap.size := k1.size
            have b2 : x1.heap.size ≤ x2.heap.size := k2.size
            have b3 : x2.heap.size ≤ x3.heap.size := k3.size
            have b4 : x3.heap.size ≤ x4.heap.size := k4.size
            have HT3 : Hid (∀ g, vt.ownBlock = some g → x0.heap.size ≤ g) := fun g hg => by have := ht3 g hg; omega
            have HD2 : Hid (∀ g, vd.ownBlock = some g → x0.heap.size ≤ g) := fun g hg => by have := hd2 g hg; omega
            have HXX : Hid (Dp.TextsAt x0 x4 xs (Dp.heardTexts S l)) := ⟨HT2.out.1, fun i hi => by
              obtain ⟨v, e1, e2, e3⟩ := HT2.out.2 i hi
              exact ⟨v, e1, e2, fun g hg => by have := e3 g hg; omega⟩⟩
            have hAB : TA ≠ TB := HA.out.ne (Dp.row_nil HB.out) (by decide)
            have HSF := Hid.mk_ hS4
            obtain ⟨vta, vtc, evt⟩ := HT1.out.isSlice
            subst evt
            obtain ⟨vda, vdc, evd⟩ := HD1.out.isSlice
            subst evd
            have zA2 : x0.heap.size ≤ TA := by have := HTAA.out; omega
            have zB2 : x0.heap.size ≤ TB := by have := HTBB.out; omega
            clear rA rB HTAA HTBB ht1 ht2 ht3 hd1 hd2 k1 k2 k3 k4 hS1 hS2 hS3 hS4 HT2 b1 b2 b3 b4
            refine Dp.wpList_store_in rfl 117 _ _ rfl TA 0 rfl (Dp.accCells (.slice vta xs.length vtc) C1 C2) rfl 117 [] (Dp.accCells (.slice none 0 0) 0 0) [] HA.out rfl rfl (by rw [sizeAcc]; rfl) (Dp.accCells_one _ _ _ rfl) ?_
            intro x5 r5 z5 k5
            have HA5 : Hid (Dp.Row x5 TA 117 (Dp.accCells (.slice vta xs.length vtc) C1 C2)) := by unfold Hid; simpa using r5
            have HB5 := Hid.mk_ (Dp.row_nil (HB.out.keep k5 (fun e => hAB e.symm)))
            clear r5
            refine Dp.wpList_store_in rfl 111 _ _ rfl TB 0 rfl (Dp.deedCells (.slice vda (Dp.vals OX).length vdc) SA ME) rfl 111 [] (Dp.deedCells (.slice none 0 0) 0 0) [] HB5.out rfl rfl (by rw [sizeDeed]; rfl) (by intro v hv; simp [Dp.deedCells] at hv; rcases hv with rfl | rfl | rfl <;> rfl) ?_
            intro x6 r6 z6 k6
            have HF : Hid (Dp.Coll x0 x6 TA TB (.slice vta xs.length vtc) (.slice vda (Dp.vals OX).length vdc) xs (Dp.heardTexts S l) OX C1 C2 SA ME) := by
              have hTAt : ∀ g, (Value.slice vta xs.length vtc).ownBlock = some g → g ≠ TA ∧ g ≠ TB := fun g hg => ⟨HT1.out.ne (by simpa using HA.out) (by decide) g hg, HT1.out.ne HB.out (by decide) g hg⟩
              have hTAd : ∀ g, (Value.slice vda (Dp.vals OX).length vdc).ownBlock = some g → g ≠ TA ∧ g ≠ TB := fun g hg => ⟨HD1.out.ne (by simpa using HA.out) (by decide) g hg, HD1.out.ne HB.out (by decide) g hg⟩
              refine ⟨HA5.out.keep k6 (fun e => hAB e), by simpa using r6, (HT1.out.keep k5 (fun g hg e => (hTAt g hg).1 e)).keep k6 (fun g hg e => (hTAt g hg).2 e), ?_, (HD1.out.keep k5 (fun g hg e => (hTAd g hg).1 e)).keep k6 (fun g hg e => (hTAd g hg).2 e), HT3.out, HD2.out, (HSF.out.next k5 (fun g hg e => by omega)).next k6 (fun g hg e => by omega)⟩
              have h5 := HXX.out.keep k5 (fun g e hg _ e2 => absurd (by rw [e2] at hg; exact hg.ne (by simpa using HA.out) (by decide) rfl) id)
              exact h5.keep k6 (fun g e hg _ e2 => absurd (by rw [e2] at hg; exact hg.ne (by simpa using HB5.out) (by decide) rfl) id)
            clear r6 k6 k5 HA HB HA5 HB5 HT1 HD1 HT3 HD2 HXX HSF z5 z6 hAB zA2 zB2
            go_wp2
            go_meet
            case rel => exact ⟨TA, TB, _, _, xs, rfl, rfl, HF⟩
          · refine Dp.wp_alloc_row 117 rfl _ zeroAcc ?_
            intro x3 rA zA k3
            clear zA
            obtain ⟨TA, hTA⟩ : ∃ T, T = x2.heap.size := ⟨_, rfl⟩
            rw [← hTA] at rA
            have hS3 := hS2.trans k3
            refine hK _ _ ⟨fun _ => hS3, ?_⟩
            clear hK K
            rw [← hTA]
            have HTAA := Hid.mk_ hTA
            clear hTA
            try simp only [Act.put, List.getElem_toArray, List.getElem_cons_zero, List.getElem_cons_succ, List.setIfInBounds_toArray, List.set_cons_zero, List.set_cons_succ]
            refine Dp.wpAnyL_one 5 rfl (by kernel_rfl) (by rfl) (fun K hK => ?_)
            go_simp
            refine (HDO.out _ hS3).mono ?_
            rintro e x4 ⟨vd, rfl, hd1, hd2, k4⟩
            have hS4 := hS3.trans k4
            refine hK _ _ ⟨fun _ => hS4, ?_⟩
            clear hK K
            try simp only [Act.put, List.getElem_toArray, List.getElem_cons_zero, List.getElem_cons_succ, List.setIfInBounds_toArray, List.set_cons_zero, List.set_cons_succ]
            refine Dp.wpAnyL_rest (by kernel_rfl) ?_
            refine Dp.wpAny_tail 8 rfl (by kernel_rfl) ?_
            simp only [List.drop_succ_cons, List.drop_zero]
            have HA := Hid.mk_ (Dp.row_nil (rA.keep k4 (fun e => e)))
            have HB := Hid.mk_ (rB.keep ((k2.trans k3).trans k4) (fun e => e))
            have HT1 := Hid.mk_ (ht1.keep (k3.trans k4) (fun _ _ e => e))
            have HT2 := Hid.mk_ (ht2.keep (k3.trans k4) (fun _ _ _ _ e => e))
            have HD1 := Hid.mk_ hd1
            have b1 : x0.heap.size ≤ x1.heap.size := k1.size
            have b2 : x1.heap.size ≤ x2.heap.size := k2.size
            have b3 : x2.heap.size ≤ x3.heap.size := k3.size
            have b4 : x3.heap.size ≤ x4.heap.size := k4.size
            have HT3 : Hid (∀ g, vt.ownBlock = some g → x0.heap.size ≤ g) := fun g hg => by have := ht3 g hg; omega
            have HD2 : Hid (∀ g, vd.ownBlock = some g → x0.heap.size ≤ g) := fun g hg => by have := hd2 g hg; omega
            have HXX : Hid (Dp.TextsAt x0 x4 xs (Dp.heardTexts S l)) := ⟨HT2.out.1, fun i hi => by
              obtain ⟨v, e1, e2, e3⟩ := HT2.out.2 i hi
              exact ⟨v, e1, e2, fun g hg => by have := e3 g hg; omega⟩⟩
            have hAB : TA ≠ TB := HA.out.ne (Dp.row_nil HB.out) (by decide)
            have HSF := Hid.mk_ hS4
            obtain ⟨vta, vtc, evt⟩ := HT1.out.isSlice
            subst evt
            obtain ⟨vda, vdc, evd⟩ := HD1.out.isSlice
            subst evd
            have zA2 : x0.heap.size ≤ TA := by have := HTAA.out; omega
            have zB2 : x0.heap.size ≤ TB := by have := HTBB.out; omega
            clear rA rB HTAA HTBB ht1 ht2 ht3 hd1 hd2 k1 k2 k3 k4 hS1 hS2 hS3 hS4 HT2 b1 b2 b3 b4
            refine Dp.wpList_store_in rfl 117 _ _ rfl TA 0 rfl (Dp.accCells (.slice vta xs.length vtc) C1 C2) rfl 117 [] (Dp.accCells (.slice none 0 0) 0 0) [] HA.out rfl rfl (by rw [sizeAcc]; rfl) (Dp.accCells_one _ _ _ rfl) ?_
            intro x5 r5 z5 k5
            have HA5 : Hid (Dp.Row x5 TA 117 (Dp.accCells (.slice vta xs.length vtc) C1 C2)) := by unfold Hid; simpa using r5
            have HB5 := Hid.mk_ (Dp.row_nil (HB.out.keep k5 (fun e => hAB e.symm)))
            clear r5
            refine Dp.wpList_store_in rfl 111 _ _ rfl TB 0 rfl (Dp.deedCells (.slice vda (Dp.vals OX).length vdc) SA ME) rfl 111 [] (Dp.deedCells (.slice none 0 0) 0 0) [] HB5.out rfl rfl (by rw [sizeDeed]; rfl) (by intro v hv; simp [Dp.deedCells] at hv; rcases hv with rfl | rfl | rfl <;> rfl) ?_
            intro x6 r6 z6 k6
            have HF : Hid (Dp.Coll x0 x6 TA TB (.slice vta xs.length vtc) (.slice vda (Dp.vals OX).length vdc) xs (Dp.heardTexts S l) OX C1 C2 SA ME) := by
              have hTAt : ∀ g, (Value.slice vta xs.length vtc).ownBlock = some g → g ≠ TA ∧ g ≠ TB := fun g hg => ⟨HT1.out.ne (by simpa using HA.out) (by decide) g hg, HT1.out.ne HB.out (by decide) g hg⟩
              have hTAd : ∀ g, (Value.slice vda (Dp.vals OX).length vdc).ownBlock = some g → g ≠ TA ∧ g ≠ TB := fun g hg => ⟨HD1.out.ne (by simpa using HA.out) (by decide) g hg, HD1.out.ne HB.out (by decide) g hg⟩
              refine ⟨HA5.out.keep k6 (fun e => hAB e), by simpa using r6, (HT1.out.keep k5 (fun g hg e => (hTAt g hg).1 e)).keep k6 (fun g hg e => (hTAt g hg).2 e), ?_, (HD1.out.keep k5 (fun g hg e => (hTAd g hg).1 e)).keep k6 (fun g hg e => (hTAd g hg).2 e), HT3.out, HD2.out, (HSF.out.next k5 (fun g hg e => by omega)).next k6 (fun g hg e => by omega)⟩
              have h5 := HXX.out.keep k5 (fun g e hg _ e2 => absurd (by rw [e2] at hg; exact hg.ne (by simpa using HA.out) (by decide) rfl) id)
              exact h5.keep k6 (fun g e hg _ e2 => absurd (by rw [e2] at hg; exact hg.ne (by simpa using HB5.out) (by decide) rfl) id)
            clear r6 k6 k5 HA HB HA5 HB5 HT1 HD1 HT3 HD2 HXX HSF z5 z6 hAB zA2 zB2
            go_wp2
            go_meet
            case rel => exact ⟨TA, TB, _, _, xs, rfl, rfl, HF⟩
        · refine Dp.wp_alloc_row 117 rfl _ zeroAcc ?_
          intro x2 rA zA k2
          clear zA
          obtain ⟨TA, hTA⟩ : ∃ T, T = x1.heap.size := ⟨_, rfl⟩
          rw [← hTA] at rA
          have hS2 := hS1.trans k2
          refine hK _ _ ⟨fun _ => hS2, ?_⟩
          clear hK K
          rw [← hTA]
          have HTAA := Hid.mk_ hTA
          clear hTA
          try simp only [Act.put, List.getElem_toArray, List.getElem_cons_zero, List.getElem_cons_succ, List.setIfInBounds_toArray, List.set_cons_zero, List.set_cons_succ]
          refine Dp.wpAnyL_one 2 rfl (by kernel_rfl) (by rfl) (fun K hK => ?_)
          go_simp
          refine (HH.out _ hS2).mono ?_
          rintro e x3 ⟨vt, xs, rfl, ht1, ht2, ht3, k3⟩
          have hS3 := hS2.trans k3
          refine hK _ _ ⟨fun _ => hS3, ?_⟩
          clear hK K
          try simp only [Act.put, List.getElem_toArray, List.getElem_cons_zero, List.getElem_cons_succ, List.setIfInBounds_toArray, List.set_cons_zero, List.set_cons_succ]
          refine Dp.wpAnyL_one 5 rfl (by kernel_rfl) (by rfl) (fun K hK => ?_)
          go_simp
          refine (HDO.out _ hS3).mono ?_
          rintro e x4 ⟨vd, rfl, hd1, hd2, k4⟩
          have hS4 := hS3.trans k4
          refine hK _ _ ⟨fun _ => hS4, ?_⟩
          clear hK K
          try simp only [Act.put, List.getElem_toArray, List.getElem_cons_zero, List.getElem_cons_succ, List.setIfInBounds_toArray, List.set_cons_zero, List.set_cons_succ]
          refine Dp.wpAnyL_rest (by kernel_rfl) ?_
          refine Dp.wpAny_tail 8 rfl (by kernel_rfl) ?_
          simp only [List.drop_succ_cons, List.drop_zero]
          have HA := Hid.mk_ (Dp.row_nil (rA.keep (k3.trans k4) (fun e => e)))
          have HB := Hid.mk_ (rB.keep ((k2.trans k3).trans k4) (fun e => e))
          have HT1 := Hid.mk_ (ht1.keep k4 (fun _ _ e => e))
          have HT2 := Hid.mk_ (ht2.keep k4 (fun _ _ _ _ e => e))
          have HD1 := Hid.mk_ hd1
          have b1 : x0.heap.size ≤ x1.heap.size := k1.size
          have b2 : x1.heap.size ≤ x2.heap.size := k2.size
          have b3 : x2.heap.size ≤ x3.heap.size := k3.size
          have b4 : x3.heap.size ≤ x4.heap.size := k4.size
          have HT3 : Hid (∀ g, vt.ownBlock = some g → x0.heap.size ≤ g) := fun g hg => by have := ht3 g hg; omega
          have HD2 : Hid (∀ g, vd.ownBlock = some g → x0.heap.size ≤ g) := fun g hg => by have := hd2 g hg; omega
          have HXX : Hid (Dp.TextsAt x0 x4 xs (Dp.heardTexts S l)) := ⟨HT2.out.1, fun i hi => by
            obtain ⟨v, e1, e2, e3⟩ := HT2.out.2 i hi
            exact ⟨v, e1, e2, fun g hg => by have := e3 g hg; omega⟩⟩
          have hAB : TA ≠ TB := HA.out.ne (Dp.row_nil HB.out) (by decide)
          have HSF := Hid.mk_ hS4
          obtain ⟨vta, vtc, evt⟩ := HT1.out.isSlice
          subst evt
          obtain ⟨vda, vdc, evd⟩ := HD1.out.isSlice
          subst evd
          have zA2 : x0.heap.size ≤ TA := by have := HTAA.out; omega
          have zB2 : x0.heap.size ≤ TB := by have := HTBB.out; omega
          clear rA rB HTAA HTBB ht1 ht2 ht3 hd1 hd2 k1 k2 k3 k4 hS1 hS2 hS3 hS4 HT2 b1 b2 b3 b4
          refine Dp.wpList_store_in rfl 117 _ _ rfl TA 0 rfl (Dp.accCells (.slice vta xs.length vtc) C1 C2) rfl 117 [] (Dp.accCells (.slice none 0 0) 0 0) [] HA.out rfl rfl (by rw [sizeAcc]; rfl) (Dp.accCells_one _ _ _ rfl) ?_
          intro x5 r5 z5 k5
          have HA5 : Hid (Dp.Row x5 TA 117 (Dp.accCells (.slice vta xs.length vtc) C1 C2)) := by unfold Hid; simpa using r5
          have HB5 := Hid.mk_ (Dp.row_nil (HB.out.keep k5 (fun e => hAB e.symm)))
          clear r5
          refine Dp.wpList_store_in rfl 111 _ _ rfl TB 0 rfl (Dp.deedCells (.slice vda (Dp.vals OX).length vdc) SA ME) rfl 111 [] (Dp.deedCells (.slice none 0 0) 0 0) [] HB5.out rfl rfl (by rw [sizeDeed]; rfl) (by intro v hv; simp [Dp.deedCells] at hv; rcases hv with rfl | rfl | rfl <;> rfl) ?_
          intro x6 r6 z6 k6
          have HF : Hid (Dp.Coll x0 x6 TA TB (.slice vta xs.length vtc) (.slice vda (Dp.vals OX).length vdc) xs (Dp.heardTexts S l) OX C1 C2 SA ME) := by
            have hTAt : ∀ g, (Value.slice vta xs.length vtc).ownBlock = some g → g ≠ TA ∧ g ≠ TB := fun g hg => ⟨HT1.out.ne (by simpa using HA.out) (by decide) g hg, HT1.out.ne HB.out (by decide) g hg⟩
            have hTAd : ∀ g, (Value.slice vda (Dp.vals OX).length vdc).ownBlock = some g → g ≠ TA ∧ g ≠ TB := fun g hg => ⟨HD1.out.ne (by simpa using HA.out) (by decide) g hg, HD1.out.ne HB.out (by decide) g hg⟩
            refine ⟨HA5.out.keep k6 (fun e => hAB e), by simpa using r6, (HT1.out.keep k5 (fun g hg e => (hTAt g hg).1 e)).keep k6 (fun g hg e => (hTAt g hg).2 e), ?_, (HD1.out.keep k5 (fun g hg e => (hTAd g hg).1 e)).keep k6 (fun g hg e => (hTAd g hg).2 e), HT3.out, HD2.out, (HSF.out.next k5 (fun g hg e => by omega)).next k6 (fun g hg e => by omega)⟩
            have h5 := HXX.out.keep k5 (fun g e hg _ e2 => absurd (by rw [e2] at hg; exact hg.ne (by simpa using HA.out) (by decide) rfl) id)
            exact h5.keep k6 (fun g e hg _ e2 => absurd (by rw [e2] at hg; exact hg.ne (by simpa using HB5.out) (by decide) rfl) id)
          clear r6 k6 k5 HA HB HA5 HB5 HT1 HD1 HT3 HD2 HXX HSF z5 z6 hAB zA2 zB2
          go_wp2
          go_meet
          case rel => exact ⟨TA, TB, _, _, xs, rfl, rfl, HF⟩
  case rest =>
    obtain ⟨TA, TB, vt, vd, xs, rfl, rfl, HF⟩ := hcut
    have a0 : wc.cell? ⟨TA, 0, none⟩ = some vt := HF.out.acc.cell 0
    have a1 : wc.cell? ⟨TA, 1, none⟩ = some (.int .i64 C1) := HF.out.acc.cell 1
    have a2 : wc.cell? ⟨TA, 2, none⟩ = some (.int .i64 C2) := HF.out.acc.cell 2
    have d0 : wc.cell? ⟨TB, 0, none⟩ = some vd := HF.out.deed.cell 0
    have d1 : wc.cell? ⟨TB, 1, none⟩ = some (.int .i64 SA) := HF.out.deed.cell 1
    have d2 : wc.cell? ⟨TB, 2, none⟩ = some (.int .i64 ME) := HF.out.deed.cell 2
    have HKC := Hid.mk_ (HK0.out.trans HF.out.keep)
    have HDEF : Hid (Dp.collides m l ↔ (C2 = 0 ∧ ME ≠ 5 ∧ ¬ (ME = 0 ∧ SA = C1))) := by
      unfold Hid Dp.collides
      rw [HSS.out, HCC.out, HME.out, HSA.out]
    clear HLS0 HLC0 HH HDO hx0 h50
    by_cases c2 : C2 = 0
    · by_cases m5 : ME = 5
      · have HN : Hid (¬ Dp.collides m l) := fun h => (HDEF.out.1 h).2.1 m5
        subst c2
        subst m5
        go_wp2
        go_ret3
        exact ⟨HKC.out, .inl ⟨HN.out, rfl⟩⟩
      · by_cases me : ME = 0 ∧ SA = C1
        · have HN : Hid (¬ Dp.collides m l) := fun h => (HDEF.out.1 h).2.2 me
          obtain ⟨me1, me2⟩ := me
          subst c2
          subst me1
          subst me2
          go_wp2
          go_ret3
          exact ⟨HKC.out, .inl ⟨HN.out, rfl⟩⟩
        · have HCOL : Hid (Dp.collides m l) := HDEF.out.2 ⟨c2, m5, me⟩
          have hcol : Dp.Clash (Dp.heardTexts S OX) (Dp.heardTexts S l) := by
            have h := HCOL.out
            obtain ⟨r1, r2, e1, e2, hcl⟩ := Dp.collide m HOK.out l h.2.1 h.1 h.2.2
            rw [HSS.out, HOX.out] at e1
            rw [HSS.out] at e2
            rw [HOX.out] at hcl
            unfold Dp.heardTexts
            rw [e1, e2]
            exact hcl
          have q0 : ∀ wx, Dp.Keeps (fun _ => False) wc wx → wx.cell? ⟨TA, 0, none⟩ = some vt := fun wx kx => (HF.out.acc.keep kx (fun e => e)).cell 0
          have q1 : ∀ wx, Dp.Keeps (fun _ => False) wc wx → wx.cell? ⟨TB, 0, none⟩ = some vd := fun wx kx => (HF.out.deed.keep kx (fun e => e)).cell 0
          have HCV := Hid.mk_ (Dp.own_cutting HF.out.shown)
          have HOL : Hid (OX.length ≤ 9223372036854775807) := by
            unfold Hid
            rw [← HOX.out, List.length_append, Dp.label_length _ _ HOK.out.s.len]
            have := Dp.shown_small m HOK.out.src
            omega
          obtain ⟨oad, ocap, eov⟩ : ∃ a c, vd = .slice a OX.length c := by obtain ⟨a, c, e, _⟩ := HCV.out; exact ⟨a, c, e⟩
          subst eov
          have HH2 : Hid (∀ wx, Dp.Keeps (fun _ => False) wc wx → Calls Tryz.prog 47 #[.int .i64 S, .slice oad OX.length ocap] wx fun e w' => ∃ vt xs, e = .returned (.agg (Dp.accCells vt (Dp.checked S OX).1 (Dp.checked S OX).2).toArray) ∧ Dp.Own w' 35 vt xs ∧ Dp.TextsAt wx w' xs (Dp.heardTexts S OX) ∧ (∀ g, vt.ownBlock = some g → wx.heap.size ≤ g) ∧ Dp.Keeps (fun _ => False) wx w') :=
            fun wx kx => progHear wx eb S oad ocap OX (HE.out.keep (HKC.out.trans kx)) (HCV.out.still kx) HOL.out
          have hS0 : Dp.Keeps (fun _ => False) wc wc.drew := (Dp.Keeps.refl _ _).drew
          obtain ⟨vta, vtc, evt⟩ := HF.out.own.isSlice
          subst evt
          generalize hvt : Value.slice vta xs.length vtc = vt at *
          subst c2
          by_cases me0 : ME = 0
          · have sac : SA ≠ C1 := fun e => me ⟨me0, e⟩
            subst me0
            clear me m5
            have HAA := Hid.mk_ hcol
            go_wp2
            refine Dp.wp_region_L (fun wx => Dp.Keeps (fun _ => False) wc wx) 7 mixedP ?_
            refine' Dp.wpAnyL_take 0 rfl (by kernel_rfl) (fun _ _ _ h => h) (by rfl) ?hyg0 hS0 ?restg0
            case hyg0 => intro wx hSx; go_simp; try with_reducible rfl
            simp only [Act.put, List.getElem_toArray, List.getElem_cons_zero, List.setIfInBounds_toArray, List.set_cons_zero, List.set_cons_succ]
            refine' Dp.wpAnyL_take 1 rfl (by kernel_rfl) (fun _ _ _ h => h) (by rfl) ?hyg1 hS0 ?restg1
            case hyg1 => intro wx hSx; go_simp; try with_reducible rfl
            simp only [Act.put, List.getElem_toArray, List.getElem_cons_zero, List.getElem_cons_succ, List.setIfInBounds_toArray, List.set_cons_zero, List.set_cons_succ]
            refine' Dp.wpAnyL_take 2 rfl (by kernel_rfl) (fun _ _ _ h => h) (by rfl) ?hyg2 hS0 ?restg2
            case hyg2 => intro wx hSx; go_simp; try with_reducible rfl
            simp only [Act.put, List.getElem_toArray, List.getElem_cons_zero, List.getElem_cons_succ, List.setIfInBounds_toArray, List.set_cons_zero, List.set_cons_succ]
            refine' Dp.wpAnyL_take 5 rfl (by kernel_rfl) (fun _ _ _ h => h) (by rfl) ?hyg5 hS0 ?restg5
            case hyg5 => intro wx hSx; go_simp; try with_reducible rfl
            simp only [Act.put, List.getElem_toArray, List.getElem_cons_zero, List.getElem_cons_succ, List.setIfInBounds_toArray, List.set_cons_zero, List.set_cons_succ]
            refine' Dp.wpAnyL_take 6 rfl (by kernel_rfl) (fun _ _ _ h => h) (by rfl) ?hyg6 hS0 ?restg6
            case hyg6 => intro wx hSx; go_simp; try with_reducible rfl
            simp only [Act.put, List.getElem_toArray, List.getElem_cons_zero, List.getElem_cons_succ, List.setIfInBounds_toArray, List.set_cons_zero, List.set_cons_succ]
            refine Dp.wpAnyL_one 3 rfl (by kernel_rfl) (by rfl) (fun K hK => ?_)
            go_simp
            refine (HH2.out _ hS0).mono ?_
            rintro e y1 ⟨vt2, xs2, rfl, ho2, hx2, hf2, k1⟩
            have hS1 := hS0.trans k1
            refine hK _ _ ⟨fun _ => hS1, ?_⟩
            clear hK K
            have hfd := fun wx => fieldTexts vt2 (Dp.checked S OX).1 (Dp.checked S OX).2 wx
            generalize Dp.checked S OX = CO at *
            refine' Dp.wpAnyL_take (v := vt2) 4 rfl (by kernel_rfl) (fun _ _ _ h => h) (by rfl) ?hyg4 hS1 ?restg4
            case hyg4 => intro wx hSx; go_simp; try with_reducible rfl
            simp only [Act.put, List.getElem_toArray, List.getElem_cons_zero, List.getElem_cons_succ, List.setIfInBounds_toArray, List.set_cons_zero, List.set_cons_succ]
            refine Dp.wpAnyL_one 7 rfl (by kernel_rfl) (by rfl) (fun K hK => ?_)
            go_simp
            obtain ⟨n, hn1, hn2, hn3, hn4, hn5⟩ := HAA.out
            have hF1 := HF.out
            refine (progParting _ _ y1 vt2 vt xs2 xs _ _ ho2 (hF1.own.keep hS1 (fun _ _ e => e)) hx2 (hF1.texts.keep hS1 (fun _ _ _ _ e => e)) n hn1 hn2 hn3 hn4 (Dp.texts_small ho2 hx2) (Dp.texts_small hF1.own hF1.texts)).mono ?_
            rintro e y2 ⟨⟨a, b, rfl, ha, hb⟩, k2⟩
            refine hK _ _ ⟨fun h => absurd h (by decide), ?_⟩
            clear hK K
            refine Dp.wpAnyL_rest (by kernel_rfl) ?_
            refine' Dp.wpAny_pure 8 rfl (by kernel_rfl) (fun _ _ _ h => h) (.inl ⟨by rfl, ?hpgg8⟩) ?pestgg8
            case hpgg8 => intro wx; go_simp; try with_reducible rfl
            simp only [Act.put, List.getElem_toArray, List.getElem_cons_zero, List.getElem_cons_succ, List.setIfInBounds_toArray, List.set_cons_zero, List.set_cons_succ]
            refine' Dp.wpAny_pure 9 rfl (by kernel_rfl) (fun _ _ _ h => h) (.inl ⟨by rfl, ?hpgg9⟩) ?pestgg9
            case hpgg9 => intro wx; go_simp; try with_reducible rfl
            simp only [Act.put, List.getElem_toArray, List.getElem_cons_zero, List.getElem_cons_succ, List.setIfInBounds_toArray, List.set_cons_zero, List.set_cons_succ]
            refine' Dp.wpAny_pure 10 rfl (by kernel_rfl) (fun _ _ _ h => h) (.inl ⟨by rfl, ?hpgg10⟩) ?pestgg10
            case hpgg10 => intro wx; go_simp; try with_reducible rfl
            simp only [Act.put, List.getElem_toArray, List.getElem_cons_zero, List.getElem_cons_succ, List.setIfInBounds_toArray, List.set_cons_zero, List.set_cons_succ]
            refine Dp.wpAny_tail 11 rfl (by kernel_rfl) ?_
            simp only [List.drop_succ_cons, List.drop_zero]
            have hs0 := HK0.out.size
            have hs1 := hF1.keep.size
            have HT : Hid (Dp.Two w y2 a b (Dp.heardTexts S OX)[n] (Dp.heardTexts S l)[n]) := by
              obtain ⟨v1, e1, o1, f1⟩ := hx2.2 n hn1
              obtain ⟨v2, e2, o2, f2⟩ := (hF1.texts.keep hS1 (fun _ _ _ _ e => e)).2 n hn2
              obtain ⟨v3, e3, o3, _⟩ := hF1.texts.2 n hn2
              obtain rfl : v1 = a := Option.some.inj (e1.symm.trans ha)
              obtain rfl : v2 = b := Option.some.inj (e2.symm.trans hb)
              obtain rfl : v3 = v2 := Option.some.inj (e3.symm.trans hb)
              have hsd : wc.heap.size ≤ wc.drew.heap.size := hS0.size
              refine ⟨o1.keep k2 (fun _ _ e => e), o2.keep k2 (fun _ _ e => e), hn4, hn5, fun g hg => by have := f1 g hg; omega, fun g hg => by have := f2 g hg; omega, fun g hg e => ?_, Dp.heard_small S OX _ (List.getElem_mem hn1), Dp.heard_small S l _ (List.getElem_mem hn2)⟩
              have h1 := f1 g hg
              have h2 := o3.lt g e
              omega
            have HKF := Hid.mk_ (((HK0.out.trans hF1.keep).trans hS1).trans k2)
            clear ho2 hx2 hf2 k1 k2 hS1 hF1 ha hb hn3 hn4 hn5 hs0 hs1
            go_wp2
            go_ret3
            exact ⟨HKF.out, .inr ⟨HCOL.out, a, b, _, _, rfl, HT.out⟩⟩
          · clear me
            have HAA := Hid.mk_ hcol
            go_wp2
            refine Dp.wp_region_L (fun wx => Dp.Keeps (fun _ => False) wc wx) 7 mixedP ?_
            refine' Dp.wpAnyL_take 0 rfl (by kernel_rfl) (fun _ _ _ h => h) (by rfl) ?hyh0 hS0 ?resth0
            case hyh0 => intro wx hSx; go_simp; try with_reducible rfl
            simp only [Act.put, List.getElem_toArray, List.getElem_cons_zero, List.setIfInBounds_toArray, List.set_cons_zero, List.set_cons_succ]
            refine' Dp.wpAnyL_take 1 rfl (by kernel_rfl) (fun _ _ _ h => h) (by rfl) ?hyh1 hS0 ?resth1
            case hyh1 => intro wx hSx; go_simp; try with_reducible rfl
            simp only [Act.put, List.getElem_toArray, List.getElem_cons_zero, List.getElem_cons_succ, List.setIfInBounds_toArray, List.set_cons_zero, List.set_cons_succ]
            refine' Dp.wpAnyL_take 2 rfl (by kernel_rfl) (fun _ _ _ h => h) (by rfl) ?hyh2 hS0 ?resth2
            case hyh2 => intro wx hSx; go_simp; try with_reducible rfl
            simp only [Act.put, List.getElem_toArray, List.getElem_cons_zero, List.getElem_cons_succ, List.setIfInBounds_toArray, List.set_cons_zero, List.set_cons_succ]
            refine' Dp.wpAnyL_take 5 rfl (by kernel_rfl) (fun _ _ _ h => h) (by rfl) ?hyh5 hS0 ?resth5
            case hyh5 => intro wx hSx; go_simp; try with_reducible rfl
            simp only [Act.put, List.getElem_toArray, List.getElem_cons_zero, List.getElem_cons_succ, List.setIfInBounds_toArray, List.set_cons_zero, List.set_cons_succ]
            refine' Dp.wpAnyL_take 6 rfl (by kernel_rfl) (fun _ _ _ h => h) (by rfl) ?hyh6 hS0 ?resth6
            case hyh6 => intro wx hSx; go_simp; try with_reducible rfl
            simp only [Act.put, List.getElem_toArray, List.getElem_cons_zero, List.getElem_cons_succ, List.setIfInBounds_toArray, List.set_cons_zero, List.set_cons_succ]
            refine Dp.wpAnyL_one 3 rfl (by kernel_rfl) (by rfl) (fun K hK => ?_)
            go_simp
            refine (HH2.out _ hS0).mono ?_
            rintro e y1 ⟨vt2, xs2, rfl, ho2, hx2, hf2, k1⟩
            have hS1 := hS0.trans k1
            refine hK _ _ ⟨fun _ => hS1, ?_⟩
            clear hK K
            have hfd := fun wx => fieldTexts vt2 (Dp.checked S OX).1 (Dp.checked S OX).2 wx
            generalize Dp.checked S OX = CO at *
            refine' Dp.wpAnyL_take (v := vt2) 4 rfl (by kernel_rfl) (fun _ _ _ h => h) (by rfl) ?hyh4 hS1 ?resth4
            case hyh4 => intro wx hSx; go_simp; try with_reducible rfl
            simp only [Act.put, List.getElem_toArray, List.getElem_cons_zero, List.getElem_cons_succ, List.setIfInBounds_toArray, List.set_cons_zero, List.set_cons_succ]
            refine Dp.wpAnyL_one 7 rfl (by kernel_rfl) (by rfl) (fun K hK => ?_)
            go_simp
            obtain ⟨n, hn1, hn2, hn3, hn4, hn5⟩ := HAA.out
            have hF1 := HF.out
            refine (progParting _ _ y1 vt2 vt xs2 xs _ _ ho2 (hF1.own.keep hS1 (fun _ _ e => e)) hx2 (hF1.texts.keep hS1 (fun _ _ _ _ e => e)) n hn1 hn2 hn3 hn4 (Dp.texts_small ho2 hx2) (Dp.texts_small hF1.own hF1.texts)).mono ?_
            rintro e y2 ⟨⟨a, b, rfl, ha, hb⟩, k2⟩
            refine hK _ _ ⟨fun h => absurd h (by decide), ?_⟩
            clear hK K
            refine Dp.wpAnyL_rest (by kernel_rfl) ?_
            refine' Dp.wpAny_pure 8 rfl (by kernel_rfl) (fun _ _ _ h => h) (.inl ⟨by rfl, ?hphh8⟩) ?pesthh8
            case hphh8 => intro wx; go_simp; try with_reducible rfl
            simp only [Act.put, List.getElem_toArray, List.getElem_cons_zero, List.getElem_cons_succ, List.setIfInBounds_toArray, List.set_cons_zero, List.set_cons_succ]
            refine' Dp.wpAny_pure 9 rfl (by kernel_rfl) (fun _ _ _ h => h) (.inl ⟨by rfl, ?hphh9⟩) ?pesthh9
            case hphh9 => intro wx; go_simp; try with_reducible rfl
            simp only [Act.put, List.getElem_toArray, List.getElem_cons_zero, List.getElem_cons_succ, List.setIfInBounds_toArray, List.set_cons_zero, List.set_cons_succ]
            refine' Dp.wpAny_pure 10 rfl (by kernel_rfl) (fun _ _ _ h => h) (.inl ⟨by rfl, ?hphh10⟩) ?pesthh10
            case hphh10 => intro wx; go_simp; try with_reducible rfl
            simp only [Act.put, List.getElem_toArray, List.getElem_cons_zero, List.getElem_cons_succ, List.setIfInBounds_toArray, List.set_cons_zero, List.set_cons_succ]
            refine Dp.wpAny_tail 11 rfl (by kernel_rfl) ?_
            simp only [List.drop_succ_cons, List.drop_zero]
            have hs0 := HK0.out.size
            have hs1 := hF1.keep.size
            have HT : Hid (Dp.Two w y2 a b (Dp.heardTexts S OX)[n] (Dp.heardTexts S l)[n]) := by
              obtain ⟨v1, e1, o1, f1⟩ := hx2.2 n hn1
              obtain ⟨v2, e2, o2, f2⟩ := (hF1.texts.keep hS1 (fun _ _ _ _ e => e)).2 n hn2
              obtain ⟨v3, e3, o3, _⟩ := hF1.texts.2 n hn2
              obtain rfl : v1 = a := Option.some.inj (e1.symm.trans ha)
              obtain rfl : v2 = b := Option.some.inj (e2.symm.trans hb)
              obtain rfl : v3 = v2 := Option.some.inj (e3.symm.trans hb)
              have hsd : wc.heap.size ≤ wc.drew.heap.size := hS0.size
              refine ⟨o1.keep k2 (fun _ _ e => e), o2.keep k2 (fun _ _ e => e), hn4, hn5, fun g hg => by have := f1 g hg; omega, fun g hg => by have := f2 g hg; omega, fun g hg e => ?_, Dp.heard_small S OX _ (List.getElem_mem hn1), Dp.heard_small S l _ (List.getElem_mem hn2)⟩
              have h1 := f1 g hg
              have h2 := o3.lt g e
              omega
            have HKF := Hid.mk_ (((HK0.out.trans hF1.keep).trans hS1).trans k2)
            clear ho2 hx2 hf2 k1 k2 hS1 hF1 ha hb hn3 hn4 hn5 hs0 hs1
            go_wp2
            go_ret3
            exact ⟨HKF.out, .inr ⟨HCOL.out, a, b, _, _, rfl, HT.out⟩⟩
    · have HN : Hid (¬ Dp.collides m l) := fun h => c2 (HDEF.out.1 h).1
      go_wp2
      go_ret3
      exact ⟨HKC.out, .inl ⟨HN.out, rfl⟩⟩
end Go.Proofs.YtdipojfngdceoabGreatDoor
