/- Steps on the way: RefProof, RefWitness. -/
import Derived.Test.YtdipojfngdceoaaGreatDoorShQ09
import Derived.Test.YtdipojfngdceoaaGreatDoorShQ15
import Derived.Test.YtdipojfngdceoaaGreatDoorShQ17
import Derived.Test.YtdipojfngdceoaaGreatDoorShQ19
import Derived.Test.YtdipojfngdceoaaGreatDoorShQ30
import Derived.Test.YtdipojfngdceoaaGreatDoorShQ32
import Derived.Test.YtdipojfngdceoaaGreatDoorShQ35
import Derived.Test.YtdipojfngdceoaaGreatDoorProg
import Derived.WalkKit
import Derived.WalkSpells
import Derived.WalkLawsBesides
namespace Go.Proofs.YtdipojfngdceoaaGreatDoor
open Go.RowKit
set_option maxHeartbeats 1000000 in
theorem refProof (cells : List Int) (hc : ∀ x ∈ cells, Dp.isWord x) (hl : cells.length = 256) (g cap : Nat) (tail : List Value) (n : Nat) (hn : n < 256) (a : Int) (ha : a = n) (w : World) (hr : Dp.Row w g 3 (Dp.regCells cells ++ tail)) :
  Calls Tryz.prog 94 #[.slice (some ⟨g, 0, none⟩) 256 cap, .int .i64 a] w fun e w' => e = .returned (.string (Dp.str (Dp.proof cells n))) ∧ Dp.Keeps (fun _ => False) w w' := by
 subst ha
 have hcell := hr.intAt n (by omega)
 have hword : Dp.isWord (cells.getD n 0) := by
  rw [List.getD_eq_getElem?_getD, List.getElem?_eq_getElem (by omega)]; exact hc _ (List.getElem_mem _)
 unfold Dp.isWord at hword
 have HZ : Hid (∀ x, cells.getD n 0 = x → Dp.str (Dp.four x) = Dp.str (Dp.proofTo cells n 0)) := by rintro x rfl; rfl
 generalize hxx : cells.getD n 0 = x at *
 have HXX := Hid.mk_ hxx
 clear hxx
 go_enter Tryz.func94, Tryz.ntmps94
 go_wp2_with fail
 refine (refFour _ _ (by omega)).mono ?_
 rintro e w1 ⟨rfl, k1⟩
 have hr1 := hr.keep k1 (fun e => e)
 go_wp2
 go_loopw [5, 6, 7, 8] (fun p s i _ wx => ∃ k : Nat, k ≤ 8 ∧ i = .int .i64 k ∧ s = .int .i64 ((2 ^ k : Nat) : Int) ∧ p = .string (Dp.str (Dp.proofTo cells n k)) ∧ Dp.Row wx g 3 (Dp.regCells cells ++ tail) ∧ Dp.Keeps (fun _ => False) w wx) (fun _ _ i _ _ => 8 - (intOf i).toNat)
 case atStart => exact ⟨0, Nat.zero_le _, rfl, rfl, by rw [HZ.out x rfl], hr1, k1⟩
 case round =>
  obtain ⟨k, hk, rfl, rfl, rfl, rk, kk⟩ := hrel
  clear k1 hr1 hcell hr
  by_cases hlt : k < 8
  ·have hp := Dp.pow_bd k hlt
   have hs := Dp.sib_bd n k hn hlt
   have hsz := Dp.str_size (Dp.proofTo cells n k)
   have hll := Dp.proofTo_length cells n k
   have bd := Dp.digest_bd cells (Dp.sib n k) k
   have HD : Hid (∀ (a : Int) (wx : World), a = (Dp.sib n k : Nat) → Dp.Row wx g 3 (Dp.regCells cells ++ tail) → Calls Tryz.prog 56 #[.slice (some ⟨g, 0, none⟩) 256 cap, .int .i64 a, .int .i64 k] wx fun e w' => e = .returned (.int .i64 (Dp.digest cells (Dp.sib n k) k)) ∧ Dp.Keeps (fun _ => False) wx w') := by
    intro a wx ha hx
    exact refDigest cells hc hl g cap tail k (Dp.sib n k) a k wx ha rfl hx hs (by omega)
   have HP : Hid (Dp.str (Dp.proofTo cells n k) ++ Dp.str (Dp.two (Dp.digest cells (Dp.sib n k) k)) = Dp.str (Dp.proofTo cells n (k + 1))) := by
    unfold Hid; rw [Dp.str_append]; rfl
   have HU : Hid (((2 ^ (k + 1) : Nat) : Int) = 2 * ((2 ^ k : Nat) : Int)) := by unfold Hid; rw [Nat.pow_succ]; omega
   have hq : n / 2 ^ k ≤ n := Nat.div_le_self _ _
   have hm : n / 2 ^ k * 2 ^ k ≤ n := Nat.div_mul_le_self _ _
   have HSB : Hid (Dp.sib n k = if n / 2 ^ k % 2 = 0 then n / 2 ^ k * 2 ^ k + 2 ^ k else n / 2 ^ k * 2 ^ k - 2 ^ k) := rfl
   rw [hll] at hsz
   generalize Dp.str (Dp.proofTo cells n k) = X at *
   generalize Dp.digest cells (Dp.sib n k) k = D at *
   generalize Dp.sib n k = B at *
   clear hll
   generalize 2 ^ k = S at *
   have e1 : ((n : Int) / (S : Int)) = ((n / S : Nat) : Int) := (Int.natCast_ediv n S).symm
   have e2 : (((n / S : Nat) : Int) * (S : Int)) = ((n / S * S : Nat) : Int) := (Int.natCast_mul _ _).symm
   by_cases hev : n / S % 2 = 0
   ·have HB := HSB.out
    rw [if_pos hev] at HB
    generalize n / S * S = F at *
    generalize n / S = Q at *
    have hev2 : ((Q : Int) % 2 == 0) = true := by rw [beq_iff_eq]; omega
    go_wp2_with fail
    refine (HD.out _ _ (by omega) rk).mono ?_
    rintro e w3 ⟨rfl, k3⟩
    go_wp2_with fail
    refine (refTwo _ _ (by omega)).mono ?_
    rintro e w4 ⟨rfl, k4⟩
    have hz2 := Dp.str_size (Dp.two D)
    rw [Dp.two_length] at hz2
    go_wp2
    go_roundw
    case rel => exact ⟨k + 1, by omega, by go_num, by rw [HU.out], by rw [HP.out], (rk.keep k3 (fun e => e)).keep k4 (fun e => e), (kk.trans k3).trans k4⟩
    case measure => simp [intOf]; omega
   ·have HB := HSB.out
    rw [if_neg hev] at HB
    have hge : S ≤ n / S * S := Nat.le_mul_of_pos_left S (Nat.pos_of_ne_zero (fun h0 => hev (by rw [h0])))
    generalize n / S * S = F at *
    generalize n / S = Q at *
    have hev2 : ((Q : Int) % 2 == 0) = false := by rw [beq_eq_false_iff_ne]; omega
    go_wp2_with fail
    refine (HD.out _ _ (by omega) rk).mono ?_
    rintro e w3 ⟨rfl, k3⟩
    go_wp2_with fail
    refine (refTwo _ _ (by omega)).mono ?_
    rintro e w4 ⟨rfl, k4⟩
    have hz2 := Dp.str_size (Dp.two D)
    rw [Dp.two_length] at hz2
    go_wp2
    go_roundw
    case rel => exact ⟨k + 1, by omega, by go_num, by rw [HU.out], by rw [HP.out], (rk.keep k3 (fun e => e)).keep k4 (fun e => e), (kk.trans k3).trans k4⟩
    case measure => simp [intOf]; omega
  ·obtain rfl : k = 8 := by omega
   go_wp2
   go_ret
   exact ⟨rfl, kk⟩
attribute [local go_sem ↓] Go.wp_at_zero Go.wp_at_succ
set_option maxRecDepth 100000 in
set_option maxHeartbeats 2000000 in
theorem refWitness (w : World) (p g : Nat) (vs : Value) (m : Dp.Mach) (h : Dp.RefM w p g vs m) :
  Calls Tryz.prog 62 #[.pointer (some ⟨p, 0, none⟩)] w fun e w' => e = .returned (.tuple #[.string (Dp.str (Dp.docWitness m)), .int .i64 m.step.2]) ∧ Dp.Keeps (fun k => k = p) w w' ∧ Dp.RefM w' p g vs m := by
 have hrb := Dp.root_bd m.cells
 go_enter Tryz.func62, Tryz.ntmps62
 go_wp2_with fail
 refine (refTwin w p g vs m h).mono ?_
 rintro e w1 ⟨p', g', rfl, hp', hg', k1, rm'⟩
 have HRM' := Hid.mk_ rm'
 clear rm'
 go_wp2_with fail
 refine (refStep w1 p' g' vs m HRM'.out).mono ?_
 rintro e w2 ⟨rfl, k2, _⟩
 have kk2 : Dp.Keeps (fun _ => False) w w2 := k1.next k2 (fun q hq e => by rcases e with e | e <;> omega)
 have H2M : Hid (Dp.RefM w2 p g vs m) := h.keep kk2 (fun e => e) (fun e => e) (fun _ _ e => e)
 clear k1 k2 HRM' hp' hg' h
 by_cases hE : m.step.2 = 0
 case neg =>
  have HW : Hid (Dp.docWitness m = []) := by unfold Hid Dp.docWitness; rw [if_pos hE]
  have HS : Hid (Dp.str [] = ⟨#[]⟩) := rfl
  have hne : (m.step.2 != 0) = true := by simpa using hE
  have HKK := Hid.mk_ (kk2.mono (T := fun k => k = p) (fun _ _ e => e.elim))
  clear kk2 hE
  go_wp2
  go_ret2
  rw [HW.out, HS.out]
  exact ⟨rfl, HKK.out, H2M.out⟩
 have HE := Hid.mk_ hE
 rw [hE]
 clear hE
 go_wp2_with fail
 refine (refNow w2 p g vs m H2M.out).mono ?_
 rintro e w3 ⟨rfl, k3, m3⟩
 have hok := m3.ok
 go_wp2_with fail
 refine (refLabel m.s (Dp.root m.cells) w3 hok.s (by omega)).mono ?_
 rintro e w4 ⟨rfl, k4⟩
 have m4 := m3.keep k4 (fun e => e) (fun e => e) (fun _ _ e => e)
 have HKP : Hid (Dp.Keeps (fun k => k = p) w w4) := ((kk2.mono (T := fun k => k = p) (fun _ _ e => e.elim)).trans k3).next k4 (fun _ _ e => e.elim)
 have M4 := Hid.mk_ m4
 have hl := hok.s.len
 clear H2M m3 k3 k4 kk2
 obtain ⟨_, ⟨r, stale, tail, h1, h2, h3, h4, h5, h6⟩, h7⟩ := m4
 have hX : (Dp.str (Dp.label m.s (Dp.root m.cells))).size = 47 := by rw [Dp.str_size, Dp.label_length m.s (Dp.root m.cells) hl]
 obtain ⟨X, hXX⟩ : ∃ X, X = Dp.str (Dp.label m.s (Dp.root m.cells)) := ⟨_, rfl⟩
 rw [← hXX] at hX ⊢
 have HX := Hid.mk_ hXX
 clear hXX
 cases hov : m.s.over with
 | true =>
  have HW : Hid (Dp.docWitness m = Dp.label m.s (Dp.root m.cells)) := by unfold Hid Dp.docWitness Dp.docShown; rw [if_neg (by rw [HE.out]; decide), hov, if_pos rfl, List.append_nil]
  obtain ⟨_, _, _, c3, _⟩ := h1.refC hl
  rw [hov] at c3
  clear h1 h2 h3 h7
  go_wp2
  go_ret2
  rw [HW.out, HX.out, HE.out]
  exact ⟨rfl, HKP.out, M4.out⟩
 | false =>
  have hpc := Dp.step_zero_pc m HE.out hov
  have hpc0 := hok.s.pc.1
  obtain ⟨i, hi⟩ : ∃ i, Dp.decode (m.cell m.s.pc) = i := ⟨_, rfl⟩
  have hiok : i.Ok := hi ▸ Dp.decode_ok _ (hok.cell _)
  have hword := hok.cell m.s.pc
  have HW : Hid (Dp.docWitness m = Dp.label m.s (Dp.root m.cells) ++ (Dp.proof m.cells m.s.pc.toNat ++ Dp.docBack m)) := by unfold Hid Dp.docWitness Dp.docShown; rw [if_neg (by rw [HE.out]; decide), hov, if_neg (by decide)]
  have e0 : ∀ wx, Dp.Keeps (fun _ => False) w4 wx → wx.cell? ⟨p, 0, none⟩ = some (.int .i64 m.s.pc) := fun wx kx => ((h1.keep kx (fun e => e)).refC hl).1
  have e14 : ∀ wx, Dp.Keeps (fun _ => False) w4 wx → wx.cell? ⟨p, 14, none⟩ = some (.slice (some ⟨g, 0, none⟩) 256 (256 + tail.length)) := fun wx kx => ((h1.keep kx (fun e => e)).refC hl).2.2.2.2.2.2.1
  have eg : ∀ wx, Dp.Keeps (fun _ => False) w4 wx → wx.cell? ⟨g, m.s.pc.toNat, none⟩ = some (.int .i64 (m.cell m.s.pc)) := fun wx kx => (h2.keep kx (fun e => e)).cellWord hok.len _ (by omega)
  obtain ⟨c0, _, _, c3, _⟩ := h1.refC hl
  rw [hov] at c3
  go_upto_region 8 with (fail)
  go_cut [7] (fun t wx => ∃ gi, t = .pointer (some ⟨gi, 0, none⟩) ∧ w4.heap.size ≤ gi ∧ Dp.Row wx gi 143 (Dp.insCells i) ∧ Dp.Keeps (fun _ => False) w4 wx)
  case first =>
   have HI : Hid (Dp.decode (m.cell m.s.pc) = i) := hi
   clear hi h1 h2 h3 h4 h5 h6 h7
   go_region_held3 (fun wx => Dp.Keeps (fun _ => False) w4 wx)
    (first | with_reducible exact (Dp.Keeps.refl _ _).drew | with_reducible exact Dp.Keeps.drew (Dp.Keeps.alloc (Dp.Keeps.refl _ _) _) | with_reducible exact Dp.Keeps.trans (by with_reducible assumption) k' | with_reducible exact Dp.Keeps.alloc (by with_reducible assumption) _ | with_reducible exact Dp.Keeps.alloc (Dp.Keeps.trans ((Dp.Keeps.refl _ _).drew) k') _ | with_reducible exact Dp.Keeps.set5 (by with_reducible assumption) (Nat.le_refl _) _ _ _ _ _)
    ((go_at_call 84; refine (refDecodeX _ i _ hword HI.out).mono ?_; rintro e w' ⟨rfl, k'⟩; obtain ⟨kc, kf⟩ := Dp.Keeps.cells k'))
   ·go_wp2
    go_meet
    case rel => exact ⟨w'.heap.size, rfl, k'.size, Dp.Row.allocNew w' 143 (Dp.insCells i), (Dp.Keeps.trans ((Dp.Keeps.refl _ _).drew) k').alloc _⟩
   ·go_wp2
    go_meet
    case rel =>
     have hz : Dp.Row w' w4.heap.size 143 (Dp.insCells ⟨0, 0, 0, 0, 0⟩) := ((Dp.Row.allocNew w4 143 (Dp.insCells ⟨0, 0, 0, 0, 0⟩)).drew).keep k' (fun e => e)
     have hk : Dp.Keeps (fun _ => False) w4 w' := Dp.Keeps.trans (((Dp.Keeps.refl _ _).alloc _).drew) k'
     exact ⟨w4.heap.size, rfl, Nat.le_refl _, ((((hz.set 0 _).set 1 _).set 2 _).set 3 _).set 4 _, hk.set5 (Nat.le_refl _) _ _ _ _ _⟩
  case rest =>
   obtain ⟨gi, rfl, hgi, ri, kw⟩ := hcut
   clear e0 e14 eg c0 c3
   have hp := h1.keep kw (fun e => e)
   have hg := h2.keep kw (fun e => e)
   have e0 : ∀ wx, Dp.Keeps (fun _ => False) wc wx → wx.cell? ⟨p, 0, none⟩ = some (.int .i64 m.s.pc) := fun wx kx => ((hp.keep kx (fun e => e)).refC hl).1
   have e14 : ∀ wx, Dp.Keeps (fun _ => False) wc wx → wx.cell? ⟨p, 14, none⟩ = some (.slice (some ⟨g, 0, none⟩) 256 (256 + tail.length)) := fun wx kx => ((hp.keep kx (fun e => e)).refC hl).2.2.2.2.2.2.1
   have HG := Hid.mk_ hg
   have HCW := Hid.mk_ hok.cells
   have HCL := Hid.mk_ hok.len
   have hS0 : Dp.Keeps (fun _ => False) wc wc.drew := (Dp.Keeps.refl _ _).drew
   have hpn : m.s.pc = (m.s.pc.toNat : Int) := by omega
   obtain ⟨Y, hY⟩ : ∃ Y, Y = Dp.str (Dp.proof m.cells m.s.pc.toNat) := ⟨_, rfl⟩
   have hYs : Y.size = 20 := by rw [hY, Dp.str_size, Dp.proof_length]
   have HPF : Hid (∀ wx, Dp.Keeps (fun _ => False) wc wx → Calls Tryz.prog 94 #[.slice (some ⟨g, 0, none⟩) 256 (256 + tail.length), .int .i64 m.s.pc] wx fun e w' => e = .returned (.string Y) ∧ Dp.Keeps (fun _ => False) wx w') := fun wx kx => hY ▸ refProof m.cells HCW.out HCL.out g _ tail m.s.pc.toNat (by omega) m.s.pc hpn wx (HG.out.keep kx (fun e => e))
   have HY := Hid.mk_ hY
   have HPN := Hid.mk_ hpn
   clear hpn hY h1 h2 h3
   go_wp2
   refine Dp.wp_region_L (fun wx => Dp.Keeps (fun _ => False) wc wx) 11 mixedZ ?_
   refine' Dp.tj 0 hS0 ?_
   simp only [Act.put, Dp.tks]
   refine' Dp.tj 1 hS0 ?_
   simp only [Act.put, Dp.tks]
   refine' Dp.tj 2 hS0 ?_
   simp only [Act.put, Dp.tks]
   refine' Dp.tj 3 hS0 ?_
   simp only [Act.put, Dp.tks]
   refine' Dp.tj 4 hS0 ?_
   simp only [Act.put, Dp.tks]
   refine' Dp.tj 5 hS0 ?_
   simp only [Act.put, Dp.tks]
   refine' Dp.tj 6 hS0 ?_
   simp only [Act.put, Dp.tks]
   refine' Dp.tj 7 hS0 ?_
   simp only [Act.put, Dp.tks]
   refine' Dp.tj 8 hS0 ?_
   simp only [Act.put, Dp.tks]
   refine' Dp.tj 9 hS0 ?_
   simp only [Act.put, Dp.tks]
   refine Dp.wpAnyL_one 10 rfl (by kernel_rfl) (by rfl) (fun K hK => ?_)
   go_simp
   refine (HPF.out _ hS0).mono ?_
   rintro e w5 ⟨rfl, k5⟩
   have hS5 := hS0.trans k5
   refine hK _ _ ⟨fun _ => hS5, ?_⟩
   clear hK K
   refine Dp.wpAnyL_rest (by kernel_rfl) ?_
   refine Dp.wpAny_tail 11 rfl (by kernel_rfl) ?_
   simp only [List.drop_succ_cons, List.drop_zero]
   have hp5 := hp.keep hS5 (fun e => e)
   have ri5 := ri.keep hS5 (fun e => e)
   obtain ⟨i0, i1, i2, i3, i4⟩ := ri5.insC
   have HK5 := Hid.mk_ (kw.trans hS5)
   have hXY : (X ++ Y).size = 67 := by rw [ByteArray.size_append, hX, hYs]
   have hsr5 := h7.keep (kw.trans hS5) (fun _ _ e => e)
   have hg5 := hg.keep hS5 (fun e => e)
   clear e0 e14 k5 hS0 kw hS5 hp ri HPF hg h7 HG
   have HFIN : Hid (∀ wx, Dp.Keeps (fun _ => False) w5 wx → Dp.Keeps (fun k => k = p) w wx ∧ Dp.RefM wx p g vs m) := fun wx kx => ⟨HKP.out.next (HK5.out.trans kx) (fun _ _ e => e.elim), M4.out.keep (HK5.out.trans kx) (fun e => e) (fun e => e) (fun _ _ e => e)⟩
   have HXY : Hid (∀ l, Dp.docBack m = l → X ++ Y ++ Dp.str l = Dp.str (Dp.docWitness m)) := by
    intro l hl
    rw [HX.out, HY.out, HW.out, Dp.str_append, Dp.str_append, hl, List.append_assoc]
   have HBH : Hid (Dp.docBack m = if i.op = 13 ∨ i.op = 14 then Dp.proof m.cells (Dp.wrap (m.s.reg i.b + i.n)).toNat else if i.op = 19 then (match Dp.findSrc m.srcs (m.s.reg i.b) with | none => [] | some l => Dp.byteOf l.length :: l) else []) := by subst hi; rfl
   have hrb := hok.s.reg i.b
   unfold Dp.isWord at hrb
   have hib := hiok.b
   have hin := hiok.n
   by_cases hop : i.op = 13 ∨ i.op = 14
   ·have hfar := Dp.step_zero_far m HE.out hov i hi hop
    have hww := Dp.wrap_word (m.s.reg i.b + i.n)
    unfold Dp.isWord at hww
    have ht : ((i.op == 13) = true) ∨ ((i.op == 13) = false ∧ (i.op == 14) = true) := by
     rcases hop with h | h <;> simp [h]
    have ht9 : (i.op == 19) = false := by rcases hop with h | h <;> simp [h]
    have HB : Hid (Dp.docBack m = Dp.proof m.cells (Dp.wrap (m.s.reg i.b + i.n)).toNat) := by unfold Hid; rw [HBH.out, if_pos hop]
    have hwr : IntKind.i64.wrap (m.s.reg i.b + i.n) = m.s.reg i.b + i.n := by rw [IntKind.wrap_i64]; omega
    have HWC : Hid (∀ wx : World, Calls Tryz.prog 85 #[.int .i64 (m.s.reg i.b + i.n)] wx fun e w' => e = .returned (.int .i64 (Dp.wrap (m.s.reg i.b + i.n))) ∧ w' = wx) := fun wx => refWrap _ wx
    clear hop HBH HW
    generalize Dp.wrap (m.s.reg i.b + i.n) = NN at *
    obtain ⟨Z, hZ⟩ : ∃ Z, Z = Dp.str (Dp.proof m.cells NN.toNat) := ⟨_, rfl⟩
    have hZs : Z.size = 20 := by rw [hZ, Dp.str_size, Dp.proof_length]
    have HPF : Hid (∀ wx, Dp.Keeps (fun _ => False) w5 wx → Calls Tryz.prog 94 #[.slice (some ⟨g, 0, none⟩) 256 (256 + tail.length), .int .i64 NN] wx fun e w' => e = .returned (.string Z) ∧ Dp.Keeps (fun _ => False) wx w') := fun wx kx => hZ ▸ refProof m.cells HCW.out HCL.out g _ tail NN.toNat (by omega) NN (by omega) wx (hg5.keep kx (fun e => e))
    have HFZ : Hid (X ++ Y ++ Z = Dp.str (Dp.docWitness m)) := by rw [hZ]; exact HXY.out _ HB.out
    have e14 : ∀ wx, Dp.Keeps (fun _ => False) w5 wx → wx.cell? ⟨p, 14, none⟩ = some (.slice (some ⟨g, 0, none⟩) 256 (256 + tail.length)) := fun wx kx => ((hp5.keep kx (fun e => e)).refC hl).2.2.2.2.2.2.1
    have e2 : ∀ wx, Dp.Keeps (fun _ => False) w5 wx → wx.cell? ⟨gi, 2, none⟩ = some (.int .i64 i.b) := fun wx kx => ((ri5.keep kx (fun e => e)).insC).2.2.1
    have e4 : ∀ wx, Dp.Keeps (fun _ => False) w5 wx → wx.cell? ⟨gi, 4, none⟩ = some (.int .i64 i.n) := fun wx kx => ((ri5.keep kx (fun e => e)).insC).2.2.2.2
    have er : ∀ wx, Dp.Keeps (fun _ => False) w5 wx → wx.cell? ⟨p, 4 + i.b.toNat, none⟩ = some (.int .i64 (m.s.reg i.b)) := fun wx kx => (hp5.keep kx (fun e => e)).refReg hl i.b hib
    have hS0 : Dp.Keeps (fun _ => False) w5 w5.drew := (Dp.Keeps.refl _ _).drew
    have HRI := Hid.mk_ ri5
    clear HXY HB hZ i1 i2 i3 i4 hi ri5
    rcases ht with ht | ⟨ht, ht2⟩
    ·go_wp2
     refine Dp.wp_region_L (fun wx => Dp.Keeps (fun _ => False) w5 wx) 18 mixedZ ?_
     refine' Dp.tj 0 hS0 ?_
     simp only [Act.put, Dp.tks]
     refine' Dp.tj 1 hS0 ?_
     simp only [Act.put, Dp.tks]
     refine' Dp.tj 2 hS0 ?_
     simp only [Act.put, Dp.tks]
     refine' Dp.tj 3 hS0 ?_
     simp only [Act.put, Dp.tks]
     refine' Dp.tj 4 hS0 ?_
     simp only [Act.put, Dp.tks]
     refine' Dp.tj 5 hS0 ?_
     simp only [Act.put, Dp.tks]
     refine' Dp.tj 6 hS0 ?_
     simp only [Act.put, Dp.tks]
     refine' Dp.tj 7 hS0 ?_
     simp only [Act.put, Dp.tks]
     refine' Dp.tj 8 hS0 ?_
     simp only [Act.put, Dp.tks]
     refine' Dp.tj 9 hS0 ?_
     simp only [Act.put, Dp.tks]
     refine' Dp.tj 10 hS0 ?_
     simp only [Act.put, Dp.tks]
     refine' Dp.tj 11 hS0 ?_
     simp only [Act.put, Dp.tks]
     refine' Dp.tj 12 hS0 ?_
     simp only [Act.put, Dp.tks]
     refine' Dp.tj 13 hS0 ?_
     simp only [Act.put, Dp.tks]
     refine' Dp.tj 14 hS0 ?_
     simp only [Act.put, Dp.tks]
     refine' Dp.tj 15 hS0 ?_
     simp only [Act.put, Dp.tks]
     refine Dp.wpAnyL_one 16 rfl (by kernel_rfl) (by rfl) (fun K hK => ?_)
     go_simp
     refine (HWC.out _).mono ?_
     rintro e w6 ⟨rfl, rfl⟩
     refine hK _ _ ⟨fun _ => hS0, ?_⟩
     clear hK K
     refine Dp.wpAnyL_one 17 rfl (by kernel_rfl) (by rfl) (fun K hK => ?_)
     go_simp
     refine (HPF.out _ hS0).mono ?_
     rintro e w7 ⟨rfl, k7⟩
     have hS7 := hS0.trans k7
     refine hK _ _ ⟨fun _ => hS7, ?_⟩
     clear hK K
     refine Dp.wpAnyL_rest (by kernel_rfl) ?_
     refine Dp.wpAny_tail 18 rfl (by kernel_rfl) ?_
     simp only [List.drop_succ_cons, List.drop_zero]
     obtain ⟨j0, _, _, _, _⟩ := (HRI.out.keep hS7 (fun e => e)).insC
     have HF7 := Hid.mk_ (HFIN.out _ hS7)
     clear e14 e2 e4 er hS0 hS7 k7 i0
     go_wp2
     go_ret2
     rw [HFZ.out, HE.out]
     exact ⟨rfl, HF7.out⟩
    ·go_wp2
     refine Dp.wp_region_L (fun wx => Dp.Keeps (fun _ => False) w5 wx) 18 mixedZ ?_
     refine' Dp.tj 0 hS0 ?_
     simp only [Act.put, Dp.tks]
     refine' Dp.tj 1 hS0 ?_
     simp only [Act.put, Dp.tks]
     refine' Dp.tj 2 hS0 ?_
     simp only [Act.put, Dp.tks]
     refine' Dp.tj 3 hS0 ?_
     simp only [Act.put, Dp.tks]
     refine' Dp.tj 4 hS0 ?_
     simp only [Act.put, Dp.tks]
     refine' Dp.tj 5 hS0 ?_
     simp only [Act.put, Dp.tks]
     refine' Dp.tj 6 hS0 ?_
     simp only [Act.put, Dp.tks]
     refine' Dp.tj 7 hS0 ?_
     simp only [Act.put, Dp.tks]
     refine' Dp.tj 8 hS0 ?_
     simp only [Act.put, Dp.tks]
     refine' Dp.tj 9 hS0 ?_
     simp only [Act.put, Dp.tks]
     refine' Dp.tj 10 hS0 ?_
     simp only [Act.put, Dp.tks]
     refine' Dp.tj 11 hS0 ?_
     simp only [Act.put, Dp.tks]
     refine' Dp.tj 12 hS0 ?_
     simp only [Act.put, Dp.tks]
     refine' Dp.tj 13 hS0 ?_
     simp only [Act.put, Dp.tks]
     refine' Dp.tj 14 hS0 ?_
     simp only [Act.put, Dp.tks]
     refine' Dp.tj 15 hS0 ?_
     simp only [Act.put, Dp.tks]
     refine Dp.wpAnyL_one 16 rfl (by kernel_rfl) (by rfl) (fun K hK => ?_)
     go_simp
     refine (HWC.out _).mono ?_
     rintro e w6 ⟨rfl, rfl⟩
     refine hK _ _ ⟨fun _ => hS0, ?_⟩
     clear hK K
     refine Dp.wpAnyL_one 17 rfl (by kernel_rfl) (by rfl) (fun K hK => ?_)
     go_simp
     refine (HPF.out _ hS0).mono ?_
     rintro e w7 ⟨rfl, k7⟩
     have hS7 := hS0.trans k7
     refine hK _ _ ⟨fun _ => hS7, ?_⟩
     clear hK K
     refine Dp.wpAnyL_rest (by kernel_rfl) ?_
     refine Dp.wpAny_tail 18 rfl (by kernel_rfl) ?_
     simp only [List.drop_succ_cons, List.drop_zero]
     obtain ⟨j0, _, _, _, _⟩ := (HRI.out.keep hS7 (fun e => e)).insC
     have HF7 := Hid.mk_ (HFIN.out _ hS7)
     clear e14 e2 e4 er hS0 hS7 k7 i0
     go_wp2
     go_ret2
     rw [HFZ.out, HE.out]
     exact ⟨rfl, HF7.out⟩
   ·have ht : (i.op == 13) = false := by simp; omega
    have ht2 : (i.op == 14) = false := by simp; omega
    by_cases h19 : i.op = 19
    ·have ht9 : (i.op == 19) = true := by simp [h19]
     have hsz := Dp.step_zero_src m HE.out hov i hi h19
     rcases Dp.findIdx_cases m.srcs (m.s.reg i.b) with ⟨_, f2⟩ | ⟨k, hk, f1, f2⟩
     ·exact absurd f2 hsz
     have HB : Hid (Dp.docBack m = Dp.byteOf m.srcs[k].length :: m.srcs[k]) := by unfold Hid; rw [HBH.out, if_neg hop, if_pos h19, f2]
     have hmem : m.srcs[k] ∈ m.srcs := List.getElem_mem hk
     have h200 := hok.src _ hmem
     have hs8 := hok.srcs
     obtain ⟨ad, cap, ev, hne⟩ := hsr5.strAt hs8
     obtain ⟨b, rfl, hc⟩ := hne (by intro e; rw [e] at hk; simp at hk)
     have HSC : Hid (∀ wx, Dp.Keeps (fun _ => False) w5 wx → Calls Tryz.prog 87 #[.pointer (some ⟨p, 0, none⟩), .int .i64 (m.s.reg i.b)] wx fun e w' => e = .returned (.int .i64 (k : Int)) ∧ w' = wx) := fun wx kx => f1 ▸ refSource wx p g vs m (HFIN.out wx kx).2 (m.s.reg i.b)
     have e15 : ∀ wx, Dp.Keeps (fun _ => False) w5 wx → wx.cell? ⟨p, 15, none⟩ = some (.slice (some ⟨b, 0, none⟩) m.srcs.length cap) := fun wx kx => ev ▸ ((hp5.keep kx (fun e => e)).refC hl).2.2.2.2.2.2.2
     have e2 : ∀ wx, Dp.Keeps (fun _ => False) w5 wx → wx.cell? ⟨gi, 2, none⟩ = some (.int .i64 i.b) := fun wx kx => ((ri5.keep kx (fun e => e)).insC).2.2.1
     have er : ∀ wx, Dp.Keeps (fun _ => False) w5 wx → wx.cell? ⟨p, 4 + i.b.toNat, none⟩ = some (.int .i64 (m.s.reg i.b)) := fun wx kx => (hp5.keep kx (fun e => e)).refReg hl i.b hib
     have es : ∀ wx, Dp.Keeps (fun _ => False) w5 wx → wx.cell? ⟨b, k, none⟩ = some (.string (Dp.str m.srcs[k])) := fun wx kx => (kx.cell (p := ⟨b, k, none⟩) (Dp.cell_lt (hc k hk)) (fun e => e)).trans (hc k hk)
     have hS0 : Dp.Keeps (fun _ => False) w5 w5.drew := (Dp.Keeps.refl _ _).drew
     have hZs := Dp.str_size m.srcs[k]
     have HFZ : Hid (X ++ Y ++ Dp.str [Dp.byteOf m.srcs[k].length] ++ Dp.str m.srcs[k] = Dp.str (Dp.docWitness m)) := by
      have h := HXY.out _ HB.out
      rw [show Dp.byteOf (m.srcs[k].length : Int) :: m.srcs[k] = [Dp.byteOf (m.srcs[k].length : Int)] ++ m.srcs[k] from rfl, ← Dp.str_append, ← ByteArray.append_assoc] at h
      exact h
     have HBY : Hid (∀ wx : World, Dp.Row wx w5.heap.size 5 [.int .u8 (m.srcs[k].length : Int)] → ∀ j (hj : j < [Dp.byteOf m.srcs[k].length].length), wx.cell? ((⟨w5.heap.size, 0, none⟩ : Addr).add j) = some (.int .u8 (([Dp.byteOf m.srcs[k].length])[j].toNat : Int))) := by
      intro wx hx j hj
      have hj' : j = 0 := by simpa using hj
      subst hj'
      have hbn := Dp.byteOf_num (m.srcs[k].length : Int) (by omega)
      rw [Dp.add_zero_off, hx.cell]
      simp only [List.getElem_cons_zero, List.getElem?_cons_zero]
      rw [hbn]
     have hb1 : (Dp.str [Dp.byteOf m.srcs[k].length]).size = 1 := by rw [Dp.str_size]; rfl
     have hkl : (k : Int) < (m.srcs.length : Int) := by omega
     clear HXY HB HBH HW i1 i2 i3 i4 hi ri5 hsz f1 f2 hmem hc hne ev hsr5 hop h19 hp5 hg5
     generalize m.srcs[k] = L at *
     generalize m.srcs.length = SN at *
     generalize hLL : L.length = LL at *
     clear hLL
     generalize Dp.byteOf LL = BB at *
     go_wp2
     refine Dp.wp_region_L (fun wx => Dp.Keeps (fun _ => False) w5 wx) 16 mixedZ ?_
     refine' Dp.tj 0 hS0 ?_
     simp only [Act.put, Dp.tks]
     refine' Dp.tj 1 hS0 ?_
     simp only [Act.put, Dp.tks]
     refine' Dp.tj 2 hS0 ?_
     simp only [Act.put, Dp.tks]
     refine' Dp.tj 3 hS0 ?_
     simp only [Act.put, Dp.tks]
     refine' Dp.tj 4 hS0 ?_
     simp only [Act.put, Dp.tks]
     refine' Dp.tj 5 hS0 ?_
     simp only [Act.put, Dp.tks]
     refine' Dp.tj 6 hS0 ?_
     simp only [Act.put, Dp.tks]
     refine' Dp.tj 7 hS0 ?_
     simp only [Act.put, Dp.tks]
     refine' Dp.tj 8 hS0 ?_
     simp only [Act.put, Dp.tks]
     refine' Dp.tj 9 hS0 ?_
     simp only [Act.put, Dp.tks]
     refine' Dp.tj 10 hS0 ?_
     simp only [Act.put, Dp.tks]
     refine' Dp.tj 11 hS0 ?_
     simp only [Act.put, Dp.tks]
     refine' Dp.tj 12 hS0 ?_
     simp only [Act.put, Dp.tks]
     refine' Dp.wpAnyL_tell 13 rfl (by kernel_rfl) (fun _ _ _ h => h) (by rfl) 87 #[.pointer (some ⟨p, 0, none⟩), .int .i64 (m.s.reg i.b)] ?he13 (fun wx hx => HSC.out wx hx) hS0 ?rest13
     case he13 => intro wx hSx; go_simp; try with_reducible rfl
     simp only [Act.put, Dp.tks]
     refine' Dp.tj 14 hS0 ?_
     simp only [Act.put, Dp.tks]
     refine' Dp.tj 15 hS0 ?_
     simp only [Act.put, Dp.tks]
     refine Dp.wpAnyL_rest (by kernel_rfl) ?_
     refine Dp.wpAny_tail 16 rfl (by kernel_rfl) ?_
     simp only [List.drop_succ_cons, List.drop_zero]
     clear e15 e2 er es i0 HSC
     go_wp2_with (refine Dp.wpList_toStr rfl _ 47 9 5 rfl Tryz.underlying47 Tryz.underlying5 Tryz.underlying9 _ 1 1 rfl [BB] rfl (HBY.out _ (Dp.Row.allocNew _ _ _)) ?_)
     have HF7 := Hid.mk_ (HFIN.out (w5.alloc (.cells #[.int .u8 (LL : Int)] 5)).drew ((Dp.Keeps.refl _ _).alloc _).drew)
     go_wp2
     go_ret2
     rw [show (⟨#[BB]⟩ : ByteArray) = Dp.str [BB] from rfl, HFZ.out, HE.out]
     exact ⟨rfl, HF7.out⟩
    ·have ht9 : (i.op == 19) = false := by simpa using h19
     have HB : Hid (Dp.docBack m = []) := by unfold Hid; rw [HBH.out, if_neg hop, if_neg h19]
     have HFZ : Hid (X ++ Y = Dp.str (Dp.docWitness m)) := by
      have h := HXY.out _ HB.out
      rw [← h]
      apply ByteArray.ext
      simp [Dp.str]
     have HF7 := Hid.mk_ (HFIN.out _ (Dp.Keeps.refl _ _))
     clear HXY HB HBH HW hop h19 hi
     go_wp2
     go_ret2
     rw [HFZ.out, HE.out]
     exact ⟨rfl, HF7.out⟩
end Go.Proofs.YtdipojfngdceoaaGreatDoor
