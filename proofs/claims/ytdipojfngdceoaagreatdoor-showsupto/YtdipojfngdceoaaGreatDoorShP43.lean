/- Steps on the way: RefWitness. -/
import Derived.Test.YtdipojfngdceoaaGreatDoorShP09
import Derived.Test.YtdipojfngdceoaaGreatDoorShP19
import Derived.Test.YtdipojfngdceoaaGreatDoorShP21
import Derived.Test.YtdipojfngdceoaaGreatDoorShP38
import Derived.Test.YtdipojfngdceoaaGreatDoorShP42
/- The document's answer: the witness comes to the plain one. -/
namespace Go.Proofs.YtdipojfngdceoaaGreatDoor
open Go.RowKit
attribute [local go_sem ↓] Go.wp_at_zero Go.wp_at_succ

set_option maxRecDepth 100000 in
set_option maxHeartbeats 2000000 in
theorem refWitness (w : World) (p g : Nat) (vs : Value) (m : Dp.Mach) (h : Dp.RefM w p g vs m) :
  Calls Tryz.prog 62 #[.pointer (some ⟨p, 0, none⟩)] w fun e w' => e = .returned (.tuple #[.string (Dp.str (Dp.docWitness m)), .int .i64 m.step.2]) ∧ Dp.Keeps (fun k => k = p) w w' ∧ Dp.RefM w' p g vs m := by
 have hrb := Dp.root_bd m.cells
 go_enter Tryz.func62, Tryz.ntmps62
 go_wp2_with fail
 refine (refTwin w p g vs m h).mono ?_
 rintro e w1 ⟨p', g', rfl, hp', hg', k1, rm'⟩
 have HRM' := Hid.mk_ rm'
 clear rm'
 go_wp2_with fail
 refine (refStep w1 p' g' vs m HRM'.out).mono ?_
 rintro e w2 ⟨rfl, k2, _⟩
 have kk2 : Dp.Keeps (fun _ => False) w w2 := k1.next k2 (fun q hq e => by rcases e with e | e <;> omega)
 have H2M : Hid (Dp.RefM w2 p g vs m) := h.keep kk2 (fun e => e) (fun e => e) (fun _ _ e => e)
 clear k1 k2 HRM' hp' hg' h
 by_cases hE : m.step.2 = 0
 case neg =>
  have HW : Hid (Dp.docWitness m = []) := by unfold Hid Dp.docWitness; rw [if_pos hE]
  have HS : Hid (Dp.str [] = ⟨#[]⟩) := rfl
  have hne : (m.step.2 != 0) = true := by simpa using hE
  have HKK := Hid.mk_ (kk2.mono (T := fun k => k = p) (fun _ _ e => e.elim))
  clear kk2 hE
  go_wp2
  go_ret2
  rw [HW.out, HS.out]
  exact ⟨rfl, HKK.out, H2M.out⟩
 have HE := Hid.mk_ hE
 rw [hE]
 clear hE
 go_wp2_with fail
 refine (refNow w2 p g vs m H2M.out).mono ?_
 rintro e w3 ⟨rfl, k3, m3⟩
 have hok := m3.ok
 go_wp2_with fail
 refine (refLabel m.s (Dp.root m.cells) w3 hok.s (by omega)).mono ?_
 rintro e w4 ⟨rfl, k4⟩
 have m4 := m3.keep k4 (fun e => e) (fun e => e) (fun _ _ e => e)
 have HKP : Hid (Dp.Keeps (fun k => k = p) w w4) := ((kk2.mono (T := fun k => k = p) (fun _ _ e => e.elim)).trans k3).next k4 (fun _ _ e => e.elim)
 have M4 := Hid.mk_ m4
 have hl := hok.s.len
 clear H2M m3 k3 k4 kk2
 obtain ⟨_, ⟨r, stale, tail, h1, h2, h3, h4, h5, h6⟩, h7⟩ := m4
 have hX : (Dp.str (Dp.label m.s (Dp.root m.cells))).size = 47 := by rw [Dp.str_size, Dp.label_length m.s (Dp.root m.cells) hl]
 obtain ⟨X, hXX⟩ : ∃ X, X = Dp.str (Dp.label m.s (Dp.root m.cells)) := ⟨_, rfl⟩
 rw [← hXX] at hX ⊢
 have HX := Hid.mk_ hXX
 clear hXX
 cases hov : m.s.over with
 | true =>
  have HW : Hid (Dp.docWitness m = Dp.label m.s (Dp.root m.cells)) := by unfold Hid Dp.docWitness Dp.docShown; rw [if_neg (by rw [HE.out]; decide), hov, if_pos rfl, List.append_nil]
  obtain ⟨_, _, _, c3, _⟩ := h1.refC hl
  rw [hov] at c3
  clear h1 h2 h3 h7
  go_wp2
  go_ret2
  rw [HW.out, HX.out, HE.out]
  exact ⟨rfl, HKP.out, M4.out⟩
 | false =>
  have hpc := Dp.step_zero_pc m HE.out hov
  have hpc0 := hok.s.pc.1
  obtain ⟨i, hi⟩ : ∃ i, Dp.decode (m.cell m.s.pc) = i := ⟨_, rfl⟩
  have hiok : i.Ok := hi ▸ Dp.decode_ok _ (hok.cell _)
  have hword := hok.cell m.s.pc
  have HW : Hid (Dp.docWitness m = Dp.label m.s (Dp.root m.cells) ++ (Dp.proof m.cells m.s.pc.toNat ++ Dp.docBack m)) := by unfold Hid Dp.docWitness Dp.docShown; rw [if_neg (by rw [HE.out]; decide), hov, if_neg (by decide)]
  have e0 : ∀ wx, Dp.Keeps (fun _ => False) w4 wx → wx.cell? ⟨p, 0, none⟩ = some (.int .i64 m.s.pc) := fun wx kx => ((h1.keep kx (fun e => e)).refC hl).1
  have e14 : ∀ wx, Dp.Keeps (fun _ => False) w4 wx → wx.cell? ⟨p, 14, none⟩ = some (.slice (some ⟨g, 0, none⟩) 256 (256 + tail.length)) := fun wx kx => ((h1.keep kx (fun e => e)).refC hl).2.2.2.2.2.2.1
  have eg : ∀ wx, Dp.Keeps (fun _ => False) w4 wx → wx.cell? ⟨g, m.s.pc.toNat, none⟩ = some (.int .i64 (m.cell m.s.pc)) := fun wx kx => (h2.keep kx (fun e => e)).cellWord hok.len _ (by omega)
  obtain ⟨c0, _, _, c3, _⟩ := h1.refC hl
  rw [hov] at c3
  go_upto_region 8 with (fail)
  go_cut [7] (fun t wx => ∃ gi, t = .pointer (some ⟨gi, 0, none⟩) ∧ w4.heap.size ≤ gi ∧ Dp.Row wx gi 143 (Dp.insCells i) ∧ Dp.Keeps (fun _ => False) w4 wx)
  case first =>
   have HI : Hid (Dp.decode (m.cell m.s.pc) = i) := hi
   clear hi h1 h2 h3 h4 h5 h6 h7
   go_region_held3 (fun wx => Dp.Keeps (fun _ => False) w4 wx)
    (first | with_reducible exact (Dp.Keeps.refl _ _).drew | with_reducible exact Dp.Keeps.drew (Dp.Keeps.alloc (Dp.Keeps.refl _ _) _) | with_reducible exact Dp.Keeps.trans (by with_reducible assumption) k' | with_reducible exact Dp.Keeps.alloc (by with_reducible assumption) _ | with_reducible exact Dp.Keeps.alloc (Dp.Keeps.trans ((Dp.Keeps.refl _ _).drew) k') _ | with_reducible exact Dp.Keeps.set5 (by with_reducible assumption) (Nat.le_refl _) _ _ _ _ _)
    ((go_at_call 84; refine (refDecodeX _ i _ hword HI.out).mono ?_; rintro e w' ⟨rfl, k'⟩; obtain ⟨kc, kf⟩ := Dp.Keeps.cells k'))
   ·go_wp2
    go_meet
    case rel => exact ⟨w'.heap.size, rfl, k'.size, Dp.Row.allocNew w' 143 (Dp.insCells i), (Dp.Keeps.trans ((Dp.Keeps.refl _ _).drew) k').alloc _⟩
   ·go_wp2
    go_meet
    case rel =>
     have hz : Dp.Row w' w4.heap.size 143 (Dp.insCells ⟨0, 0, 0, 0, 0⟩) := ((Dp.Row.allocNew w4 143 (Dp.insCells ⟨0, 0, 0, 0, 0⟩)).drew).keep k' (fun e => e)
     have hk : Dp.Keeps (fun _ => False) w4 w' := Dp.Keeps.trans (((Dp.Keeps.refl _ _).alloc _).drew) k'
     exact ⟨w4.heap.size, rfl, Nat.le_refl _, ((((hz.set 0 _).set 1 _).set 2 _).set 3 _).set 4 _, hk.set5 (Nat.le_refl _) _ _ _ _ _⟩
  case rest =>
   obtain ⟨gi, rfl, hgi, ri, kw⟩ := hcut
   clear e0 e14 eg c0 c3
   have hp := h1.keep kw (fun e => e)
   have hg := h2.keep kw (fun e => e)
   have e0 : ∀ wx, Dp.Keeps (fun _ => False) wc wx → wx.cell? ⟨p, 0, none⟩ = some (.int .i64 m.s.pc) := fun wx kx => ((hp.keep kx (fun e => e)).refC hl).1
   have e14 : ∀ wx, Dp.Keeps (fun _ => False) wc wx → wx.cell? ⟨p, 14, none⟩ = some (.slice (some ⟨g, 0, none⟩) 256 (256 + tail.length)) := fun wx kx => ((hp.keep kx (fun e => e)).refC hl).2.2.2.2.2.2.1
   have HG := Hid.mk_ hg
   have HCW := Hid.mk_ hok.cells
   have HCL := Hid.mk_ hok.len
   have hS0 : Dp.Keeps (fun _ => False) wc wc.drew := (Dp.Keeps.refl _ _).drew
   have hpn : m.s.pc = (m.s.pc.toNat : Int) := by omega
   obtain ⟨Y, hY⟩ : ∃ Y, Y = Dp.str (Dp.proof m.cells m.s.pc.toNat) := ⟨_, rfl⟩
   have hYs : Y.size = 20 := by rw [hY, Dp.str_size, Dp.proof_length]
   have HPF : Hid (∀ wx, Dp.Keeps (fun _ => False) wc wx → Calls Tryz.prog 94 #[.slice (some ⟨g, 0, none⟩) 256 (256 + tail.length), .int .i64 m.s.pc] wx fun e w' => e = .returned (.string Y) ∧ Dp.Keeps (fun _ => False) wx w') := fun wx kx => hY ▸ refProof m.cells HCW.out HCL.out g _ tail m.s.pc.toNat (by omega) m.s.pc hpn wx (HG.out.keep kx (fun e => e))
   have HY := Hid.mk_ hY
   have HPN := Hid.mk_ hpn
   clear hpn hY h1 h2 h3
   go_wp2
   refine Dp.wp_region_L (fun wx => Dp.Keeps (fun _ => False) wc wx) 11 mixedZ ?_
   refine' Dp.wpAnyL_take 0 rfl (by kernel_rfl) (fun _ _ _ h => h) (by rfl) ?hya0 hS0 ?resta0
   case hya0 => intro wx hSx; go_simp; try with_reducible rfl
   simp only [Act.put, Dp.tks]
   refine' Dp.wpAnyL_take 1 rfl (by kernel_rfl) (fun _ _ _ h => h) (by rfl) ?hya1 hS0 ?resta1
   case hya1 => intro wx hSx; go_simp; try with_reducible rfl
   simp only [Act.put, Dp.tks]
   refine' Dp.wpAnyL_take 2 rfl (by kernel_rfl) (fun _ _ _ h => h) (by rfl) ?hya2 hS0 ?resta2
   case hya2 => intro wx hSx; go_simp; try with_reducible rfl
   simp only [Act.put, Dp.tks]
   refine' Dp.wpAnyL_take 3 rfl (by kernel_rfl) (fun _ _ _ h => h) (by rfl) ?hya3 hS0 ?resta3
   case hya3 => intro wx hSx; go_simp; try with_reducible rfl
   simp only [Act.put, Dp.tks]
   refine' Dp.wpAnyL_take 4 rfl (by kernel_rfl) (fun _ _ _ h => h) (by rfl) ?hya4 hS0 ?resta4
   case hya4 => intro wx hSx; go_simp; try with_reducible rfl
   simp only [Act.put, Dp.tks]
   refine' Dp.wpAnyL_take 5 rfl (by kernel_rfl) (fun _ _ _ h => h) (by rfl) ?hya5 hS0 ?resta5
   case hya5 => intro wx hSx; go_simp; try with_reducible rfl
   simp only [Act.put, Dp.tks]
   refine' Dp.wpAnyL_take 6 rfl (by kernel_rfl) (fun _ _ _ h => h) (by rfl) ?hya6 hS0 ?resta6
   case hya6 => intro wx hSx; go_simp; try with_reducible rfl
   simp only [Act.put, Dp.tks]
   refine' Dp.wpAnyL_take 7 rfl (by kernel_rfl) (fun _ _ _ h => h) (by rfl) ?hya7 hS0 ?resta7
   case hya7 => intro wx hSx; go_simp; try with_reducible rfl
   simp only [Act.put, Dp.tks]
   refine' Dp.wpAnyL_take 8 rfl (by kernel_rfl) (fun _ _ _ h => h) (by rfl) ?hya8 hS0 ?resta8
   case hya8 => intro wx hSx; go_simp; try with_reducible rfl
   simp only [Act.put, Dp.tks]
   refine' Dp.wpAnyL_take 9 rfl (by kernel_rfl) (fun _ _ _ h => h) (by rfl) ?hya9 hS0 ?resta9
   case hya9 => intro wx hSx; go_simp; try with_reducible rfl
   simp only [Act.put, Dp.tks]
   refine Dp.wpAnyL_one 10 rfl (by kernel_rfl) (by rfl) (fun K hK => ?_)
   go_simp
   refine (HPF.out _ hS0).mono ?_
   rintro e w5 ⟨rfl, k5⟩
   have hS5 := hS0.trans k5
   refine hK _ _ ⟨fun _ => hS5, ?_⟩
   clear hK K
   refine Dp.wpAnyL_rest (by kernel_rfl) ?_
   refine Dp.wpAny_tail 11 rfl (by kernel_rfl) ?_
   simp only [List.drop_succ_cons, List.drop_zero]
   have hp5 := hp.keep hS5 (fun e => e)
   have ri5 := ri.keep hS5 (fun e => e)
   obtain ⟨i0, i1, i2, i3, i4⟩ := ri5.insC
   have HK5 := Hid.mk_ (kw.trans hS5)
   have hXY : (X ++ Y).size = 67 := by rw [ByteArray.size_append, hX, hYs]
   have hsr5 := h7.keep (kw.trans hS5) (fun _ _ e => e)
   have hg5 := hg.keep hS5 (fun e => e)
   clear e0 e14 k5 hS0 kw hS5 hp ri HPF hg h7 HG
   have HFIN : Hid (∀ wx, Dp.Keeps (fun _ => False) w5 wx → Dp.Keeps (fun k => k = p) w wx ∧ Dp.RefM wx p g vs m) := fun wx kx => ⟨HKP.out.next (HK5.out.trans kx) (fun _ _ e => e.elim), M4.out.keep (HK5.out.trans kx) (fun e => e) (fun e => e) (fun _ _ e => e)⟩
   have HXY : Hid (∀ l, Dp.docBack m = l → X ++ Y ++ Dp.str l = Dp.str (Dp.docWitness m)) := by
    intro l hl
    rw [HX.out, HY.out, HW.out, Dp.str_append, Dp.str_append, hl, List.append_assoc]
   have HBH : Hid (Dp.docBack m = if i.op = 13 ∨ i.op = 14 then Dp.proof m.cells (Dp.wrap (m.s.reg i.b + i.n)).toNat else if i.op = 19 then (match Dp.findSrc m.srcs (m.s.reg i.b) with | none => [] | some l => Dp.byteOf l.length :: l) else []) := by subst hi; rfl
   have hrb := hok.s.reg i.b
   unfold Dp.isWord at hrb
   have hib := hiok.b
   have hin := hiok.n
   by_cases hop : i.op = 13 ∨ i.op = 14
   ·have hfar := Dp.step_zero_far m HE.out hov i hi hop
    have hww := Dp.wrap_word (m.s.reg i.b + i.n)
    unfold Dp.isWord at hww
    have ht : ((i.op == 13) = true) ∨ ((i.op == 13) = false ∧ (i.op == 14) = true) := by
     rcases hop with h | h <;> simp [h]
    have ht9 : (i.op == 19) = false := by rcases hop with h | h <;> simp [h]
    have HB : Hid (Dp.docBack m = Dp.proof m.cells (Dp.wrap (m.s.reg i.b + i.n)).toNat) := by unfold Hid; rw [HBH.out, if_pos hop]
    have hwr : IntKind.i64.wrap (m.s.reg i.b + i.n) = m.s.reg i.b + i.n := by rw [IntKind.wrap_i64]; omega
    have HWC : Hid (∀ wx : World, Calls Tryz.prog 85 #[.int .i64 (m.s.reg i.b + i.n)] wx fun e w' => e = .returned (.int .i64 (Dp.wrap (m.s.reg i.b + i.n))) ∧ w' = wx) := fun wx => refWrap _ wx
    clear hop HBH HW
    generalize Dp.wrap (m.s.reg i.b + i.n) = NN at *
    obtain ⟨Z, hZ⟩ : ∃ Z, Z = Dp.str (Dp.proof m.cells NN.toNat) := ⟨_, rfl⟩
    have hZs : Z.size = 20 := by rw [hZ, Dp.str_size, Dp.proof_length]
    have HPF : Hid (∀ wx, Dp.Keeps (fun _ => False) w5 wx → Calls Tryz.prog 94 #[.slice (some ⟨g, 0, none⟩) 256 (256 + tail.length), .int .i64 NN] wx fun e w' => e = .returned (.string Z) ∧ Dp.Keeps (fun _ => False) wx w') := fun wx kx => hZ ▸ refProof m.cells HCW.out HCL.out g _ tail NN.toNat (by omega) NN (by omega) wx (hg5.keep kx (fun e => e))
    have HFZ : Hid (X ++ Y ++ Z = Dp.str (Dp.docWitness m)) := by rw [hZ]; exact HXY.out _ HB.out
    have e14 : ∀ wx, Dp.Keeps (fun _ => False) w5 wx → wx.cell? ⟨p, 14, none⟩ = some (.slice (some ⟨g, 0, none⟩) 256 (256 + tail.length)) := fun wx kx => ((hp5.keep kx (fun e => e)).refC hl).2.2.2.2.2.2.1
    have e2 : ∀ wx, Dp.Keeps (fun _ => False) w5 wx → wx.cell? ⟨gi, 2, none⟩ = some (.int .i64 i.b) := fun wx kx => ((ri5.keep kx (fun e => e)).insC).2.2.1
    have e4 : ∀ wx, Dp.Keeps (fun _ => False) w5 wx → wx.cell? ⟨gi, 4, none⟩ = some (.int .i64 i.n) := fun wx kx => ((ri5.keep kx (fun e => e)).insC).2.2.2.2
    have er : ∀ wx, Dp.Keeps (fun _ => False) w5 wx → wx.cell? ⟨p, 4 + i.b.toNat, none⟩ = some (.int .i64 (m.s.reg i.b)) := fun wx kx => (hp5.keep kx (fun e => e)).refReg hl i.b hib
    have hS0 : Dp.Keeps (fun _ => False) w5 w5.drew := (Dp.Keeps.refl _ _).drew
    have HRI := Hid.mk_ ri5
    clear HXY HB hZ i1 i2 i3 i4 hi ri5
    rcases ht with ht | ⟨ht, ht2⟩
    ·go_wp2
     refine Dp.wp_region_L (fun wx => Dp.Keeps (fun _ => False) w5 wx) 18 mixedZ ?_
     refine' Dp.wpAnyL_take 0 rfl (by kernel_rfl) (fun _ _ _ h => h) (by rfl) ?hyc0 hS0 ?restc0
     case hyc0 => intro wx hSx; go_simp; try with_reducible rfl
     simp only [Act.put, Dp.tks]
     refine' Dp.wpAnyL_take 1 rfl (by kernel_rfl) (fun _ _ _ h => h) (by rfl) ?hyc1 hS0 ?restc1
     case hyc1 => intro wx hSx; go_simp; try with_reducible rfl
     simp only [Act.put, Dp.tks]
     refine' Dp.wpAnyL_take 2 rfl (by kernel_rfl) (fun _ _ _ h => h) (by rfl) ?hyc2 hS0 ?restc2
     case hyc2 => intro wx hSx; go_simp; try with_reducible rfl
     simp only [Act.put, Dp.tks]
     refine' Dp.wpAnyL_take 3 rfl (by kernel_rfl) (fun _ _ _ h => h) (by rfl) ?hyc3 hS0 ?restc3
     case hyc3 => intro wx hSx; go_simp; try with_reducible rfl
     simp only [Act.put, Dp.tks]
     refine' Dp.wpAnyL_take 4 rfl (by kernel_rfl) (fun _ _ _ h => h) (by rfl) ?hyc4 hS0 ?restc4
     case hyc4 => intro wx hSx; go_simp; try with_reducible rfl
     simp only [Act.put, Dp.tks]
     refine' Dp.wpAnyL_take 5 rfl (by kernel_rfl) (fun _ _ _ h => h) (by rfl) ?hyc5 hS0 ?restc5
     case hyc5 => intro wx hSx; go_simp; try with_reducible rfl
     simp only [Act.put, Dp.tks]
     refine' Dp.wpAnyL_take 6 rfl (by kernel_rfl) (fun _ _ _ h => h) (by rfl) ?hyc6 hS0 ?restc6
     case hyc6 => intro wx hSx; go_simp; try with_reducible rfl
     simp only [Act.put, Dp.tks]
     refine' Dp.wpAnyL_take 7 rfl (by kernel_rfl) (fun _ _ _ h => h) (by rfl) ?hyc7 hS0 ?restc7
     case hyc7 => intro wx hSx; go_simp; try with_reducible rfl
     simp only [Act.put, Dp.tks]
     refine' Dp.wpAnyL_take 8 rfl (by kernel_rfl) (fun _ _ _ h => h) (by rfl) ?hyc8 hS0 ?restc8
     case hyc8 => intro wx hSx; go_simp; try with_reducible rfl
     simp only [Act.put, Dp.tks]
     refine' Dp.wpAnyL_take 9 rfl (by kernel_rfl) (fun _ _ _ h => h) (by rfl) ?hyc9 hS0 ?restc9
     case hyc9 => intro wx hSx; go_simp; try with_reducible rfl
     simp only [Act.put, Dp.tks]
     refine' Dp.wpAnyL_take 10 rfl (by kernel_rfl) (fun _ _ _ h => h) (by rfl) ?hyc10 hS0 ?restc10
     case hyc10 => intro wx hSx; go_simp; try with_reducible rfl
     simp only [Act.put, Dp.tks]
     refine' Dp.wpAnyL_take 11 rfl (by kernel_rfl) (fun _ _ _ h => h) (by rfl) ?hyc11 hS0 ?restc11
     case hyc11 => intro wx hSx; go_simp; try with_reducible rfl
     simp only [Act.put, Dp.tks]
     refine' Dp.wpAnyL_take 12 rfl (by kernel_rfl) (fun _ _ _ h => h) (by rfl) ?hyc12 hS0 ?restc12
     case hyc12 => intro wx hSx; go_simp; try with_reducible rfl
     simp only [Act.put, Dp.tks]
     refine' Dp.wpAnyL_take 13 rfl (by kernel_rfl) (fun _ _ _ h => h) (by rfl) ?hyc13 hS0 ?restc13
     case hyc13 => intro wx hSx; go_simp; try with_reducible rfl
     simp only [Act.put, Dp.tks]
     refine' Dp.wpAnyL_take 14 rfl (by kernel_rfl) (fun _ _ _ h => h) (by rfl) ?hyc14 hS0 ?restc14
     case hyc14 => intro wx hSx; go_simp; try with_reducible rfl
     simp only [Act.put, Dp.tks]
     refine' Dp.wpAnyL_take 15 rfl (by kernel_rfl) (fun _ _ _ h => h) (by rfl) ?hyc15 hS0 ?restc15
     case hyc15 => intro wx hSx; go_simp; try with_reducible rfl
     simp only [Act.put, Dp.tks]
     refine Dp.wpAnyL_one 16 rfl (by kernel_rfl) (by rfl) (fun K hK => ?_)
     go_simp
     refine (HWC.out _).mono ?_
     rintro e w6 ⟨rfl, rfl⟩
     refine hK _ _ ⟨fun _ => hS0, ?_⟩
     clear hK K
     refine Dp.wpAnyL_one 17 rfl (by kernel_rfl) (by rfl) (fun K hK => ?_)
     go_simp
     refine (HPF.out _ hS0).mono ?_
     rintro e w7 ⟨rfl, k7⟩
     have hS7 := hS0.trans k7
     refine hK _ _ ⟨fun _ => hS7, ?_⟩
     clear hK K
     refine Dp.wpAnyL_rest (by kernel_rfl) ?_
     refine Dp.wpAny_tail 18 rfl (by kernel_rfl) ?_
     simp only [List.drop_succ_cons, List.drop_zero]
     obtain ⟨j0, _, _, _, _⟩ := (HRI.out.keep hS7 (fun e => e)).insC
     have HF7 := Hid.mk_ (HFIN.out _ hS7)
     clear e14 e2 e4 er hS0 hS7 k7 i0
     go_wp2
     go_ret2
     rw [HFZ.out, HE.out]
     exact ⟨rfl, HF7.out⟩
    ·go_wp2
     refine Dp.wp_region_L (fun wx => Dp.Keeps (fun _ => False) w5 wx) 18 mixedZ ?_
     refine' Dp.wpAnyL_take 0 rfl (by kernel_rfl) (fun _ _ _ h => h) (by rfl) ?hyd0 hS0 ?restd0
     case hyd0 => intro wx hSx; go_simp; try with_reducible rfl
     simp only [Act.put, Dp.tks]
     refine' Dp.wpAnyL_take 1 rfl (by kernel_rfl) (fun _ _ _ h => h) (by rfl) ?hyd1 hS0 ?restd1
     case hyd1 => intro wx hSx; go_simp; try with_reducible rfl
     simp only [Act.put, Dp.tks]
     refine' Dp.wpAnyL_take 2 rfl (by kernel_rfl) (fun _ _ _ h => h) (by rfl) ?hyd2 hS0 ?restd2
     case hyd2 => intro wx hSx; go_simp; try with_reducible rfl
     simp only [Act.put, Dp.tks]
     refine' Dp.wpAnyL_take 3 rfl (by kernel_rfl) (fun _ _ _ h => h) (by rfl) ?hyd3 hS0 ?restd3
     case hyd3 => intro wx hSx; go_simp; try with_reducible rfl
     simp only [Act.put, Dp.tks]
     refine' Dp.wpAnyL_take 4 rfl (by kernel_rfl) (fun _ _ _ h => h) (by rfl) ?hyd4 hS0 ?restd4
     case hyd4 => intro wx hSx; go_simp; try with_reducible rfl
     simp only [Act.put, Dp.tks]
     refine' Dp.wpAnyL_take 5 rfl (by kernel_rfl) (fun _ _ _ h => h) (by rfl) ?hyd5 hS0 ?restd5
     case hyd5 => intro wx hSx; go_simp; try with_reducible rfl
     simp only [Act.put, Dp.tks]
     refine' Dp.wpAnyL_take 6 rfl (by kernel_rfl) (fun _ _ _ h => h) (by rfl) ?hyd6 hS0 ?restd6
     case hyd6 => intro wx hSx; go_simp; try with_reducible rfl
     simp only [Act.put, Dp.tks]
     refine' Dp.wpAnyL_take 7 rfl (by kernel_rfl) (fun _ _ _ h => h) (by rfl) ?hyd7 hS0 ?restd7
     case hyd7 => intro wx hSx; go_simp; try with_reducible rfl
     simp only [Act.put, Dp.tks]
     refine' Dp.wpAnyL_take 8 rfl (by kernel_rfl) (fun _ _ _ h => h) (by rfl) ?hyd8 hS0 ?restd8
     case hyd8 => intro wx hSx; go_simp; try with_reducible rfl
     simp only [Act.put, Dp.tks]
     refine' Dp.wpAnyL_take 9 rfl (by kernel_rfl) (fun _ _ _ h => h) (by rfl) ?hyd9 hS0 ?restd9
     case hyd9 => intro wx hSx; go_simp; try with_reducible rfl
     simp only [Act.put, Dp.tks]
     refine' Dp.wpAnyL_take 10 rfl (by kernel_rfl) (fun _ _ _ h => h) (by rfl) ?hyd10 hS0 ?restd10
     case hyd10 => intro wx hSx; go_simp; try with_reducible rfl
     simp only [Act.put, Dp.tks]
     refine' Dp.wpAnyL_take 11 rfl (by kernel_rfl) (fun _ _ _ h => h) (by rfl) ?hyd11 hS0 ?restd11
     case hyd11 => intro wx hSx; go_simp; try with_reducible rfl
     simp only [Act.put, Dp.tks]
     refine' Dp.wpAnyL_take 12 rfl (by kernel_rfl) (fun _ _ _ h => h) (by rfl) ?hyd12 hS0 ?restd12
     case hyd12 => intro wx hSx; go_simp; try with_reducible rfl
     simp only [Act.put, Dp.tks]
     refine' Dp.wpAnyL_take 13 rfl (by kernel_rfl) (fun _ _ _ h => h) (by rfl) ?hyd13 hS0 ?restd13
     case hyd13 => intro wx hSx; go_simp; try with_reducible rfl
     simp only [Act.put, Dp.tks]
     refine' Dp.wpAnyL_take 14 rfl (by kernel_rfl) (fun _ _ _ h => h) (by rfl) ?hyd14 hS0 ?restd14
     case hyd14 => intro wx hSx; go_simp; try with_reducible rfl
     simp only [Act.put, Dp.tks]
     refine' Dp.wpAnyL_take 15 rfl (by kernel_rfl) (fun _ _ _ h => h) (by rfl) ?hyd15 hS0 ?restd15
     case hyd15 => intro wx hSx; go_simp; try with_reducible rfl
     simp only [Act.put, Dp.tks]
     refine Dp.wpAnyL_one 16 rfl (by kernel_rfl) (by rfl) (fun K hK => ?_)
     go_simp
     refine (HWC.out _).mono ?_
     rintro e w6 ⟨rfl, rfl⟩
     refine hK _ _ ⟨fun _ => hS0, ?_⟩
     clear hK K
     refine Dp.wpAnyL_one 17 rfl (by kernel_rfl) (by rfl) (fun K hK => ?_)
     go_simp
     refine (HPF.out _ hS0).mono ?_
     rintro e w7 ⟨rfl, k7⟩
     have hS7 := hS0.trans k7
     refine hK _ _ ⟨fun _ => hS7, ?_⟩
     clear hK K
     refine Dp.wpAnyL_rest (by kernel_rfl) ?_
     refine Dp.wpAny_tail 18 rfl (by kernel_rfl) ?_
     simp only [List.drop_succ_cons, List.drop_zero]
     obtain ⟨j0, _, _, _, _⟩ := (HRI.out.keep hS7 (fun e => e)).insC
     have HF7 := Hid.mk_ (HFIN.out _ hS7)
     clear e14 e2 e4 er hS0 hS7 k7 i0
     go_wp2
     go_ret2
     rw [HFZ.out, HE.out]
     exact ⟨rfl, HF7.out⟩
   ·have ht : (i.op == 13) = false := by simp; omega
    have ht2 : (i.op == 14) = false := by simp; omega
    by_cases h19 : i.op = 19
    ·have ht9 : (i.op == 19) = true := by simp [h19]
     have hsz := Dp.step_zero_src m HE.out hov i hi h19
     rcases Dp.findIdx_cases m.srcs (m.s.reg i.b) with ⟨_, f2⟩ | ⟨k, hk, f1, f2⟩
     ·exact absurd f2 hsz
     have HB : Hid (Dp.docBack m = Dp.byteOf m.srcs[k].length :: m.srcs[k]) := by unfold Hid; rw [HBH.out, if_neg hop, if_pos h19, f2]
     have hmem : m.srcs[k] ∈ m.srcs := List.getElem_mem hk
     have h200 := hok.src _ hmem
     have hs8 := hok.srcs
     obtain ⟨ad, cap, ev, hne⟩ := hsr5.strAt hs8
     obtain ⟨b, rfl, hc⟩ := hne (by intro e; rw [e] at hk; simp at hk)
     have HSC : Hid (∀ wx, Dp.Keeps (fun _ => False) w5 wx → Calls Tryz.prog 87 #[.pointer (some ⟨p, 0, none⟩), .int .i64 (m.s.reg i.b)] wx fun e w' => e = .returned (.int .i64 (k : Int)) ∧ w' = wx) := fun wx kx => f1 ▸ refSource wx p g vs m (HFIN.out wx kx).2 (m.s.reg i.b)
     have e15 : ∀ wx, Dp.Keeps (fun _ => False) w5 wx → wx.cell? ⟨p, 15, none⟩ = some (.slice (some ⟨b, 0, none⟩) m.srcs.length cap) := fun wx kx => ev ▸ ((hp5.keep kx (fun e => e)).refC hl).2.2.2.2.2.2.2
     have e2 : ∀ wx, Dp.Keeps (fun _ => False) w5 wx → wx.cell? ⟨gi, 2, none⟩ = some (.int .i64 i.b) := fun wx kx => ((ri5.keep kx (fun e => e)).insC).2.2.1
     have er : ∀ wx, Dp.Keeps (fun _ => False) w5 wx → wx.cell? ⟨p, 4 + i.b.toNat, none⟩ = some (.int .i64 (m.s.reg i.b)) := fun wx kx => (hp5.keep kx (fun e => e)).refReg hl i.b hib
     have es : ∀ wx, Dp.Keeps (fun _ => False) w5 wx → wx.cell? ⟨b, k, none⟩ = some (.string (Dp.str m.srcs[k])) := fun wx kx => (kx.cell (p := ⟨b, k, none⟩) (Dp.cell_lt (hc k hk)) (fun e => e)).trans (hc k hk)
     have hS0 : Dp.Keeps (fun _ => False) w5 w5.drew := (Dp.Keeps.refl _ _).drew
     have hZs := Dp.str_size m.srcs[k]
     have HFZ : Hid (X ++ Y ++ Dp.str [Dp.byteOf m.srcs[k].length] ++ Dp.str m.srcs[k] = Dp.str (Dp.docWitness m)) := by
      have h := HXY.out _ HB.out
      rw [show Dp.byteOf (m.srcs[k].length : Int) :: m.srcs[k] = [Dp.byteOf (m.srcs[k].length : Int)] ++ m.srcs[k] from rfl, ← Dp.str_append, ← ByteArray.append_assoc] at h
      exact h
     have HBY : Hid (∀ wx : World, Dp.Row wx w5.heap.size 5 [.int .u8 (m.srcs[k].length : Int)] → ∀ j (hj : j < [Dp.byteOf m.srcs[k].length].length), wx.cell? ((⟨w5.heap.size, 0, none⟩ : Addr).add j) = some (.int .u8 (([Dp.byteOf m.srcs[k].length])[j].toNat : Int))) := by
      intro wx hx j hj
      have hj' : j = 0 := by simpa using hj
      subst hj'
      have hbn := Dp.byteOf_num (m.srcs[k].length : Int) (by omega)
      rw [Dp.add_zero_off, hx.cell]
      simp only [List.getElem_cons_zero, List.getElem?_cons_zero]
      rw [hbn]
     have hb1 : (Dp.str [Dp.byteOf m.srcs[k].length]).size = 1 := by rw [Dp.str_size]; rfl
     have hkl : (k : Int) < (m.srcs.length : Int) := by omega
     clear HXY HB HBH HW i1 i2 i3 i4 hi ri5 hsz f1 f2 hmem hc hne ev hsr5 hop h19 hp5 hg5
     generalize m.srcs[k] = L at *
     generalize m.srcs.length = SN at *
     generalize hLL : L.length = LL at *
     clear hLL
     generalize Dp.byteOf LL = BB at *
     go_wp2
     refine Dp.wp_region_L (fun wx => Dp.Keeps (fun _ => False) w5 wx) 16 mixedZ ?_
     refine' Dp.wpAnyL_take 0 rfl (by kernel_rfl) (fun _ _ _ h => h) (by rfl) ?hye0 hS0 ?reste0
     case hye0 => intro wx hSx; go_simp; try with_reducible rfl
     simp only [Act.put, Dp.tks]
     refine' Dp.wpAnyL_take 1 rfl (by kernel_rfl) (fun _ _ _ h => h) (by rfl) ?hye1 hS0 ?reste1
     case hye1 => intro wx hSx; go_simp; try with_reducible rfl
     simp only [Act.put, Dp.tks]
     refine' Dp.wpAnyL_take 2 rfl (by kernel_rfl) (fun _ _ _ h => h) (by rfl) ?hye2 hS0 ?reste2
     case hye2 => intro wx hSx; go_simp; try with_reducible rfl
     simp only [Act.put, Dp.tks]
     refine' Dp.wpAnyL_take 3 rfl (by kernel_rfl) (fun _ _ _ h => h) (by rfl) ?hye3 hS0 ?reste3
     case hye3 => intro wx hSx; go_simp; try with_reducible rfl
     simp only [Act.put, Dp.tks]
     refine' Dp.wpAnyL_take 4 rfl (by kernel_rfl) (fun _ _ _ h => h) (by rfl) ?hye4 hS0 ?reste4
     case hye4 => intro wx hSx; go_simp; try with_reducible rfl
     simp only [Act.put, Dp.tks]
     refine' Dp.wpAnyL_take 5 rfl (by kernel_rfl) (fun _ _ _ h => h) (by rfl) ?hye5 hS0 ?reste5
     case hye5 => intro wx hSx; go_simp; try with_reducible rfl
     simp only [Act.put, Dp.tks]
     refine' Dp.wpAnyL_take 6 rfl (by kernel_rfl) (fun _ _ _ h => h) (by rfl) ?hye6 hS0 ?reste6
     case hye6 => intro wx hSx; go_simp; try with_reducible rfl
     simp only [Act.put, Dp.tks]
     refine' Dp.wpAnyL_take 7 rfl (by kernel_rfl) (fun _ _ _ h => h) (by rfl) ?hye7 hS0 ?reste7
     case hye7 => intro wx hSx; go_simp; try with_reducible rfl
     simp only [Act.put, Dp.tks]
     refine' Dp.wpAnyL_take 8 rfl (by kernel_rfl) (fun _ _ _ h => h) (by rfl) ?hye8 hS0 ?reste8
     case hye8 => intro wx hSx; go_simp; try with_reducible rfl
     simp only [Act.put, Dp.tks]
     refine' Dp.wpAnyL_take 9 rfl (by kernel_rfl) (fun _ _ _ h => h) (by rfl) ?hye9 hS0 ?reste9
     case hye9 => intro wx hSx; go_simp; try with_reducible rfl
     simp only [Act.put, Dp.tks]
     refine' Dp.wpAnyL_take 10 rfl (by kernel_rfl) (fun _ _ _ h => h) (by rfl) ?hye10 hS0 ?reste10
     case hye10 => intro wx hSx; go_simp; try with_reducible rfl
     simp only [Act.put, Dp.tks]
     refine' Dp.wpAnyL_take 11 rfl (by kernel_rfl) (fun _ _ _ h => h) (by rfl) ?hye11 hS0 ?reste11
     case hye11 => intro wx hSx; go_simp; try with_reducible rfl
     simp only [Act.put, Dp.tks]
     refine' Dp.wpAnyL_take 12 rfl (by kernel_rfl) (fun _ _ _ h => h) (by rfl) ?hye12 hS0 ?reste12
     case hye12 => intro wx hSx; go_simp; try with_reducible rfl
     simp only [Act.put, Dp.tks]
     refine' Dp.wpAnyL_tell 13 rfl (by kernel_rfl) (fun _ _ _ h => h) (by rfl) 87 #[.pointer (some ⟨p, 0, none⟩), .int .i64 (m.s.reg i.b)] ?he13 (fun wx hx => HSC.out wx hx) hS0 ?rest13
     case he13 => intro wx hSx; go_simp; try with_reducible rfl
     simp only [Act.put, Dp.tks]
     refine' Dp.wpAnyL_take 14 rfl (by kernel_rfl) (fun _ _ _ h => h) (by rfl) ?hyf14 hS0 ?restf14
     case hyf14 => intro wx hSx; go_simp; try with_reducible rfl
     simp only [Act.put, Dp.tks]
     refine' Dp.wpAnyL_take 15 rfl (by kernel_rfl) (fun _ _ _ h => h) (by rfl) ?hyf15 hS0 ?restf15
     case hyf15 => intro wx hSx; go_simp; try with_reducible rfl
     simp only [Act.put, Dp.tks]
     refine Dp.wpAnyL_rest (by kernel_rfl) ?_
     refine Dp.wpAny_tail 16 rfl (by kernel_rfl) ?_
     simp only [List.drop_succ_cons, List.drop_zero]
     clear e15 e2 er es i0 HSC
     go_wp2_with (refine Dp.wpList_toStr rfl _ 47 9 5 rfl Tryz.underlying47 Tryz.underlying5 Tryz.underlying9 _ 1 1 rfl [BB] rfl (HBY.out _ (Dp.Row.allocNew _ _ _)) ?_)
     have HF7 := Hid.mk_ (HFIN.out (w5.alloc (.cells #[.int .u8 (LL : Int)] 5)).drew ((Dp.Keeps.refl _ _).alloc _).drew)
     go_wp2
     go_ret2
     rw [show (⟨#[BB]⟩ : ByteArray) = Dp.str [BB] from rfl, HFZ.out, HE.out]
     exact ⟨rfl, HF7.out⟩
    ·have ht9 : (i.op == 19) = false := by simpa using h19
     have HB : Hid (Dp.docBack m = []) := by unfold Hid; rw [HBH.out, if_neg hop, if_neg h19]
     have HFZ : Hid (X ++ Y = Dp.str (Dp.docWitness m)) := by
      have h := HXY.out _ HB.out
      rw [← h]
      apply ByteArray.ext
      simp [Dp.str]
     have HF7 := Hid.mk_ (HFIN.out _ (Dp.Keeps.refl _ _))
     clear HXY HB HBH HW hop h19 hi
     go_wp2
     go_ret2
     rw [HFZ.out, HE.out]
     exact ⟨rfl, HF7.out⟩
end Go.Proofs.YtdipojfngdceoaaGreatDoor
