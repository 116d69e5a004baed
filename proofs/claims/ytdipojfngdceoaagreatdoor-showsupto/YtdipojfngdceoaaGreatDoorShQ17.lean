/- Steps on the way: RefStepE, RefStepF, RefStep, RefRun. -/
import Derived.Test.YtdipojfngdceoaaGreatDoorShQ09
import Derived.Test.YtdipojfngdceoaaGreatDoorShQ15
import Derived.Test.YtdipojfngdceoaaGreatDoorShQ16
namespace Go.Proofs.YtdipojfngdceoaaGreatDoor
open Go.RowKit
attribute [local go_sem ↓] Go.wp_at_zero Go.wp_at_succ
set_option maxRecDepth 100000 in
set_option maxHeartbeats 2000000 in
theorem refStepAskSome (w : World) (p g : Nat) (vs : Value) (m : Dp.Mach) (h : Dp.RefM w p g vs m) (hov : m.s.over = false) (hpc : m.s.pc < 256) (i : Dp.Ins) (hi : Dp.decode (m.cell m.s.pc) = i) (hop : i.op = 19) (kk : Nat) (hkk : kk < m.srcs.length) (hn : Dp.findIdx m.srcs (m.s.reg i.b) = kk) :
  Calls Tryz.prog 57 #[.pointer (some ⟨p, 0, none⟩)] w fun e w' => e = .returned (.int .i64 0) ∧ Dp.Keeps (fun k => k = p ∨ k = g) w w' ∧ Dp.RefM w' p g vs { m with s := Dp.moved m.s i (Dp.told m.srcs[kk] (m.s.reg i.c)) true } := by
 have hM := h
 obtain ⟨hok, ⟨r, stale, tail, h1, h2, h3, h4, h5, h6⟩, h7⟩ := h
 have hl := hok.s.len
 have hpc0 := hok.s.pc.1
 have hiok : i.Ok := hi ▸ Dp.decode_ok _ (hok.cell _)
 have hword := hok.cell m.s.pc
 have e0 : ∀ wx, Dp.Keeps (fun _ => False) w wx → wx.cell? ⟨p, 0, none⟩ = some (.int .i64 m.s.pc) := fun wx kx => ((h1.keep kx (fun e => e)).refC hl).1
 have e14 : ∀ wx, Dp.Keeps (fun _ => False) w wx → wx.cell? ⟨p, 14, none⟩ = some (.slice (some ⟨g, 0, none⟩) 256 (256 + tail.length)) := fun wx kx => ((h1.keep kx (fun e => e)).refC hl).2.2.2.2.2.2.1
 have eg : ∀ wx, Dp.Keeps (fun _ => False) w wx → wx.cell? ⟨g, m.s.pc.toNat, none⟩ = some (.int .i64 (m.cell m.s.pc)) := fun wx kx => (h2.keep kx (fun e => e)).cellWord hok.len _ (by omega)
 obtain ⟨c0, _, _, c3, _, _, _, _⟩ := h1.refC hl
 rw [hov] at c3
 go_enter Tryz.func57, Tryz.ntmps57
 go_upto_region 5 with (fail)
 go_cut [3] (fun t wx => ∃ gi, t = .pointer (some ⟨gi, 0, none⟩) ∧ w.heap.size ≤ gi ∧ Dp.Row wx gi 143 (Dp.insCells i) ∧ Dp.Keeps (fun _ => False) w wx)
 case first =>
  have HI : Hid (Dp.decode (m.cell m.s.pc) = i) := hi
  clear hi hM h1 h2 h3 h4 h5 h6 h7 hop hn
  go_region_held3 (fun wx => Dp.Keeps (fun _ => False) w wx)
   (first | with_reducible exact (Dp.Keeps.refl _ _).drew | with_reducible exact Dp.Keeps.drew (Dp.Keeps.alloc (Dp.Keeps.refl _ _) _) | with_reducible exact Dp.Keeps.trans (by with_reducible assumption) k' | with_reducible exact Dp.Keeps.alloc (by with_reducible assumption) _ | with_reducible exact Dp.Keeps.alloc (Dp.Keeps.trans ((Dp.Keeps.refl _ _).drew) k') _ | with_reducible exact Dp.Keeps.set5 (by with_reducible assumption) (Nat.le_refl _) _ _ _ _ _)
   ((go_at_call 84; refine (refDecodeX _ i _ hword HI.out).mono ?_; rintro e w' ⟨rfl, k'⟩; obtain ⟨kc, kf⟩ := Dp.Keeps.cells k'))
  ·go_wp2
   go_meet
   case rel => exact ⟨w'.heap.size, rfl, k'.size, Dp.Row.allocNew w' 143 (Dp.insCells i), (Dp.Keeps.trans ((Dp.Keeps.refl _ _).drew) k').alloc _⟩
  ·go_wp2
   go_meet
   case rel =>
    have hz : Dp.Row w' w.heap.size 143 (Dp.insCells ⟨0, 0, 0, 0, 0⟩) := ((Dp.Row.allocNew w 143 (Dp.insCells ⟨0, 0, 0, 0, 0⟩)).drew).keep k' (fun e => e)
    have hk : Dp.Keeps (fun _ => False) w w' := Dp.Keeps.trans (((Dp.Keeps.refl _ _).alloc _).drew) k'
    exact ⟨w.heap.size, rfl, Nat.le_refl _, ((((hz.set 0 _).set 1 _).set 2 _).set 3 _).set 4 _, hk.set5 (Nat.le_refl _) _ _ _ _ _⟩
 case rest =>
  obtain ⟨gi, rfl, hgi, ri, kw⟩ := hcut
  clear e0 e14 eg c0 c3
  have hp := h1.keep kw (fun e => e)
  have hg := h2.keep kw (fun e => e)
  have hsr := h7.keep kw (fun _ _ e => e)
  have hplt := h1.lt
  have hglt := h2.lt
  have e0 : ∀ wx, Dp.Keeps (fun _ => False) wc wx → wx.cell? ⟨gi, 2, none⟩ = some (.int .i64 i.b) := fun wx kx => ((ri.keep kx (fun e => e)).insC).2.2.1
  have e1 : ∀ wx, Dp.Keeps (fun _ => False) wc wx → wx.cell? ⟨gi, 4, none⟩ = some (.int .i64 i.n) := fun wx kx => ((ri.keep kx (fun e => e)).insC).2.2.2.2
  have e2 : ∀ wx, Dp.Keeps (fun _ => False) wc wx → wx.cell? ⟨p, 4 + i.b.toNat, none⟩ = some (.int .i64 (m.s.reg i.b)) := fun wx kx => (hp.keep kx (fun e => e)).refReg hl i.b hiok.b
  obtain ⟨i0, i1, i2, i3, i4⟩ := ri.insC
  have hib := hiok.b
  have hin := hiok.n
  have hrb := hok.s.reg i.b
  unfold Dp.isWord at hrb
  have hwr : IntKind.i64.wrap (m.s.reg i.b + i.n) = m.s.reg i.b + i.n := by rw [IntKind.wrap_i64]; omega
  have ht : (i.op == 13) = false := by simp [hop]
  have ht2 : (i.op == 14) = false := by simp [hop]
  have ht3 : (i.op == 19) = true := by simp [hop]
  have HOP := Hid.mk_ hop
  clear hop
  have MC := Hid.mk_ (hM.keep kw.drew (fun e => e) (fun e => e) (fun _ _ e => e))
  have HF := Hid.mk_ hn
  clear hn
  go_wp2
  go_region_held3 (fun wx => Dp.Keeps (fun _ => False) wc wx) (with_reducible exact (Dp.Keeps.refl _ _).drew) ((go_at_call 87; refine (refSource _ p g vs m MC.out (m.s.reg i.b)).mono ?_; rintro e w' ⟨rfl, rfl⟩))
  rw [HF.out]
  clear e0 e1 e2
  have kd : Dp.Keeps (fun _ => False) w wc.drew := kw.drew
  have md := hM.keep kd (fun e => e) (fun e => e) (fun _ _ e => e)
  have hpd : Dp.Row wc.drew p 113 _ := hp
  have hgd : Dp.Row wc.drew g 3 _ := hg
  have rid : Dp.Row wc.drew gi 143 _ := ri
  have hsd : Dp.Own wc.drew 9 vs _ := hsr
  clear hp hg ri i0 i1 i2 i3 i4 hsr kw MC
  go_wp2
  generalize wc.drew = wd at *
  have hic := hiok.c
  have hrc := hok.s.reg i.c
  have hn8 := hok.srcs
  have hsz : m.srcs[kk].length ≤ 200 := hok.src _ (List.getElem_mem hkk)
  obtain ⟨ad, cap, hvs, hcell⟩ := hsd.strAt hn8
  obtain ⟨bs, had, hc⟩ := hcell (by intro e; simp [e] at hkk)
  subst had
  have htw := Dp.told_bd m.srcs[kk] (m.s.reg i.c)
  have hblt : bs < wd.heap.size := hsd.lt bs (by rw [hvs]; rfl)
  have ck := hc kk hkk
  have qs : ∀ wx, Dp.Keeps (fun _ => False) wd wx → wx.cell? ⟨bs, kk, none⟩ = some (.string (Dp.str m.srcs[kk])) := fun wx kx => (kx.cell (p := ⟨bs, kk, none⟩) hblt (fun e => e)).trans ck
  have q15 : ∀ wx, Dp.Keeps (fun _ => False) wd wx → wx.cell? ⟨p, 15, none⟩ = some (.slice (some ⟨bs, 0, none⟩) m.srcs.length cap) := fun wx kx => by rw [((hpd.keep kx (fun e => e)).refC hl).2.2.2.2.2.2.2, hvs]
  have qc : ∀ wx, Dp.Keeps (fun _ => False) wd wx → wx.cell? ⟨p, 4 + i.c.toNat, none⟩ = some (.int .i64 (m.s.reg i.c)) := fun wx kx => (hpd.keep kx (fun e => e)).refReg hl i.c hiok.c
  have HVS := Hid.mk_ hvs
  have HBX := Hid.mk_ hsd
  clear hvs hc hcell ck hsd
  have q0 : ∀ wx, Dp.Keeps (fun _ => False) wd wx → wx.cell? ⟨gi, 0, none⟩ = some (.int .i64 i.op) := fun wx kx => ((rid.keep kx (fun e => e)).insC).1
  have q1 : ∀ wx, Dp.Keeps (fun _ => False) wd wx → wx.cell? ⟨gi, 1, none⟩ = some (.int .i64 i.a) := fun wx kx => ((rid.keep kx (fun e => e)).insC).2.1
  have q2 : ∀ wx, Dp.Keeps (fun _ => False) wd wx → wx.cell? ⟨gi, 2, none⟩ = some (.int .i64 i.b) := fun wx kx => ((rid.keep kx (fun e => e)).insC).2.2.1
  have q3 : ∀ wx, Dp.Keeps (fun _ => False) wd wx → wx.cell? ⟨gi, 3, none⟩ = some (.int .i64 i.c) := fun wx kx => ((rid.keep kx (fun e => e)).insC).2.2.2.1
  have q4 : ∀ wx, Dp.Keeps (fun _ => False) wd wx → wx.cell? ⟨gi, 4, none⟩ = some (.int .i64 i.n) := fun wx kx => ((rid.keep kx (fun e => e)).insC).2.2.2.2
  have q14 : ∀ wx, Dp.Keeps (fun _ => False) wd wx → wx.cell? ⟨p, 14, none⟩ = some (.slice (some ⟨g, 0, none⟩) 256 (256 + tail.length)) := fun wx kx => ((hpd.keep kx (fun e => e)).refC hl).2.2.2.2.2.2.1
  have HLS : Hid (∀ wx, Dp.Keeps (fun _ => False) wd wx → (Instr.loadAt 74 (.pointer (some ⟨p, 0, none⟩))).run Tryz.prog wx = .ok (.agg (Dp.stCells m.s r).toArray) wx) := fun wx kx => runLoadSt (show Dp.Row wx p 113 (Dp.stCells m.s r ++ _) from hpd.keep kx (fun e => e)) hl
  have hS0 : Dp.Keeps (fun _ => False) wd wd.drew := (Dp.Keeps.refl _ _).drew
  refine Dp.wp_region_K (fun wx => Dp.Keeps (fun _ => False) wd wx) 25 mixedZ ?_
  refine' Dp.wpAnyK_take 0 rfl (by kernel_rfl) (fun _ _ _ h => h) (by rfl) ?hy0 hS0 ?rest0
  case hy0 => intro wx hSx; go_simp; try with_reducible rfl
  simp only [Act.put, Dp.tks]
  refine' Dp.wpAnyK_take 1 rfl (by kernel_rfl) (fun _ _ _ h => h) (by rfl) ?hy1 hS0 ?rest1
  case hy1 => intro wx hSx; go_simp; try with_reducible rfl
  simp only [Act.put, Dp.tks]
  refine' Dp.wpAnyK_take 2 rfl (by kernel_rfl) (fun _ _ _ h => h) (by rfl) ?hy2 hS0 ?rest2
  case hy2 => intro wx hSx; go_simp; try with_reducible rfl
  simp only [Act.put, Dp.tks]
  refine' Dp.wpAnyK_take 3 rfl (by kernel_rfl) (fun _ _ _ h => h) (by rfl) ?hy3 hS0 ?rest3
  case hy3 => intro wx hSx; go_simp; try with_reducible rfl
  simp only [Act.put, Dp.tks]
  refine Dp.wpAnyK_take 4 rfl (by kernel_rfl) (fun _ _ _ h => h) (by rfl) (fun wx hSx => Dp.run_load_op rfl rfl (HLS.out wx hSx)) hS0 ?_
  simp only [Act.put, Dp.tks]
  refine' Dp.wpAnyK_take 5 rfl (by kernel_rfl) (fun _ _ _ h => h) (by rfl) ?hy5 hS0 ?rest5
  case hy5 => intro wx hSx; go_simp; try with_reducible rfl
  simp only [Act.put, Dp.tks]
  refine' Dp.wpAnyK_take 6 rfl (by kernel_rfl) (fun _ _ _ h => h) (by rfl) ?hy6 hS0 ?rest6
  case hy6 => intro wx hSx; go_simp; try with_reducible rfl
  simp only [Act.put, Dp.tks]
  refine' Dp.wpAnyK_take 7 rfl (by kernel_rfl) (fun _ _ _ h => h) (by rfl) ?hy7 hS0 ?rest7
  case hy7 => intro wx hSx; go_simp; try with_reducible rfl
  simp only [Act.put, Dp.tks]
  refine' Dp.wpAnyK_take 8 rfl (by kernel_rfl) (fun _ _ _ h => h) (by rfl) ?hy8 hS0 ?rest8
  case hy8 => intro wx hSx; go_simp; try with_reducible rfl
  simp only [Act.put, Dp.tks]
  refine' Dp.wpAnyK_take 9 rfl (by kernel_rfl) (fun _ _ _ h => h) (by rfl) ?hy9 hS0 ?rest9
  case hy9 => intro wx hSx; go_simp; try with_reducible rfl
  simp only [Act.put, Dp.tks]
  refine' Dp.wpAnyK_take 10 rfl (by kernel_rfl) (fun _ _ _ h => h) (by rfl) ?hy10 hS0 ?rest10
  case hy10 => intro wx hSx; go_simp; try with_reducible rfl
  simp only [Act.put, Dp.tks]
  refine' Dp.wpAnyK_take 11 rfl (by kernel_rfl) (fun _ _ _ h => h) (by rfl) ?hy11 hS0 ?rest11
  case hy11 => intro wx hSx; go_simp; try with_reducible rfl
  simp only [Act.put, Dp.tks]
  refine' Dp.wpAnyK_take 12 rfl (by kernel_rfl) (fun _ _ _ h => h) (by rfl) ?hy12 hS0 ?rest12
  case hy12 => intro wx hSx; go_simp; try with_reducible rfl
  simp only [Act.put, Dp.tks]
  refine' Dp.wpAnyK_take 13 rfl (by kernel_rfl) (fun _ _ _ h => h) (by rfl) ?hy13 hS0 ?rest13
  case hy13 => intro wx hSx; go_simp; try with_reducible rfl
  simp only [Act.put, Dp.tks]
  refine' Dp.wpAnyK_take 14 rfl (by kernel_rfl) (fun _ _ _ h => h) (by rfl) ?hy14 hS0 ?rest14
  case hy14 => intro wx hSx; go_simp; try with_reducible rfl
  simp only [Act.put, Dp.tks]
  refine' Dp.wpAnyK_take 15 rfl (by kernel_rfl) (fun _ _ _ h => h) (by rfl) ?hy15 hS0 ?rest15
  case hy15 => intro wx hSx; go_simp; try with_reducible rfl
  simp only [Act.put, Dp.tks]
  refine' Dp.wpAnyK_take 16 rfl (by kernel_rfl) (fun _ _ _ h => h) (by rfl) ?hy16 hS0 ?rest16
  case hy16 => intro wx hSx; go_simp; try with_reducible rfl
  simp only [Act.put, Dp.tks]
  refine' Dp.wpAnyK_take 17 rfl (by kernel_rfl) (fun _ _ _ h => h) (by rfl) ?hy17 hS0 ?rest17
  case hy17 => intro wx hSx; go_simp; try with_reducible rfl
  simp only [Act.put, Dp.tks]
  refine' Dp.wpAnyK_take 18 rfl (by kernel_rfl) (fun _ _ _ h => h) (by rfl) ?hy18 hS0 ?rest18
  case hy18 => intro wx hSx; go_simp; try with_reducible rfl
  simp only [Act.put, Dp.tks]
  refine' Dp.wpAnyK_take 19 rfl (by kernel_rfl) (fun _ _ _ h => h) (by rfl) ?hy19 hS0 ?rest19
  case hy19 => intro wx hSx; go_simp; try with_reducible rfl
  simp only [Act.put, Dp.tks]
  refine' Dp.wpAnyK_take 20 rfl (by kernel_rfl) (fun _ _ _ h => h) (by rfl) ?hy20 hS0 ?rest20
  case hy20 => intro wx hSx; go_simp; try with_reducible rfl
  simp only [Act.put, Dp.tks]
  refine Dp.wpAnyK_one 21 rfl (by kernel_rfl) (by rfl) (fun K hK => ?_)
  go_simp
  refine (refToldI _ _ _ hrc (by omega)).mono ?_
  rintro e w' ⟨rfl, rfl⟩
  refine hK _ _ ⟨fun _ => hS0, ?_⟩
  clear hK K
  refine Dp.wpAnyK_one 22 rfl (by kernel_rfl) (by rfl) (fun K hK => ?_)
  go_simp
  refine (refMovedX m.s r i (Dp.told m.srcs[kk] (m.s.reg i.c)) true _ hok.s hiok).mono ?_
  rintro e w' ⟨rfl, k'⟩
  refine hK _ _ ⟨fun _ => hS0.trans k', ?_⟩
  clear hK K
  have hS1 := hS0.trans k'
  refine Dp.wpAnyK_one 23 rfl (by kernel_rfl) (by rfl) (fun K hK => ?_)
  go_simp
  refine hK _ _ ⟨fun _ => hS1, ?_⟩
  clear hK K
  refine Dp.wpAnyK_one 24 rfl (by kernel_rfl) (by rfl) (fun K hK => ?_)
  go_simp
  refine hK _ _ ⟨fun _ => hS1, ?_⟩
  clear hK K
  refine Dp.wpAnyK_one 25 rfl (by kernel_rfl) (by rfl) (fun K hK => ?_)
  have hth := (hpd.keep hS1 (fun e => e)).there 0 13 (by rw [Dp.refCells_length _ _ _ _ _ hl]; omega)
  have hlen := Dp.stCells_length (Dp.moved m.s i (Dp.told m.srcs[kk] (m.s.reg i.c)) true) r (Dp.moved_ok hok.s i (Dp.told m.srcs[kk] (m.s.reg i.c)) true htw).len
  refine wp_store_mid _ _ _ rfl _ _ (Dp.stCells (Dp.moved m.s i (Dp.told m.srcs[kk] (m.s.reg i.c)) true) r).toArray rfl rfl (by rw [List.size_toArray, hlen]; exact hth) (by rw [sizeState, List.size_toArray, hlen]) (all_oneCell_toArray (Dp.stCells_one _ _)) ?_
  refine hK _ _ ⟨fun h => absurd rfl h, ?_⟩
  clear hK K
  refine Dp.wpAnyK_done (by kernel_rfl) ?_ _
  go_wp2
  go_ret
  refine ⟨rfl, ?_, ?_⟩
  ·exact Dp.Keeps.setCells _ _ _ ((kd.trans hS1).mono (fun _ _ e => e.elim)) (.inr (.inl rfl))
  ·exact (md.keep hS1 (fun e => e) (fun e => e) (fun _ _ e => e)).store r stale tail (hpd.keep hS1 (fun e => e)) (hgd.keep hS1 (fun e => e)) h3 h4 h5 h6 _ (Dp.moved_ok hok.s i (Dp.told m.srcs[kk] (m.s.reg i.c)) true htw)
end Go.Proofs.YtdipojfngdceoaaGreatDoor

namespace Go.Proofs.YtdipojfngdceoaaGreatDoor
open Go.RowKit
attribute [local go_sem ↓] Go.wp_at_zero Go.wp_at_succ
set_option maxRecDepth 100000 in
set_option maxHeartbeats 2000000 in
theorem refStepPlain (w : World) (p g : Nat) (vs : Value) (m : Dp.Mach) (h : Dp.RefM w p g vs m) (hov : m.s.over = false) (hpc : m.s.pc < 256) (i : Dp.Ins) (hi : Dp.decode (m.cell m.s.pc) = i) (hop : i.op ≠ 13 ∧ i.op ≠ 14 ∧ i.op ≠ 19) :
  Calls Tryz.prog 57 #[.pointer (some ⟨p, 0, none⟩)] w fun e w' => e = .returned (.int .i64 (Dp.plain m.s i).2) ∧ Dp.Keeps (fun k => k = p ∨ k = g) w w' ∧ Dp.RefM w' p g vs { m with s := (Dp.plain m.s i).1 } := by
 have hM := h
 obtain ⟨hok, ⟨r, stale, tail, h1, h2, h3, h4, h5, h6⟩, h7⟩ := h
 have hl := hok.s.len
 have hpc0 := hok.s.pc.1
 have hiok : i.Ok := hi ▸ Dp.decode_ok _ (hok.cell _)
 have hword := hok.cell m.s.pc
 have e0 : ∀ wx, Dp.Keeps (fun _ => False) w wx → wx.cell? ⟨p, 0, none⟩ = some (.int .i64 m.s.pc) := fun wx kx => ((h1.keep kx (fun e => e)).refC hl).1
 have e14 : ∀ wx, Dp.Keeps (fun _ => False) w wx → wx.cell? ⟨p, 14, none⟩ = some (.slice (some ⟨g, 0, none⟩) 256 (256 + tail.length)) := fun wx kx => ((h1.keep kx (fun e => e)).refC hl).2.2.2.2.2.2.1
 have eg : ∀ wx, Dp.Keeps (fun _ => False) w wx → wx.cell? ⟨g, m.s.pc.toNat, none⟩ = some (.int .i64 (m.cell m.s.pc)) := fun wx kx => (h2.keep kx (fun e => e)).cellWord hok.len _ (by omega)
 obtain ⟨c0, _, _, c3, _, _, _, _⟩ := h1.refC hl
 rw [hov] at c3
 go_enter Tryz.func57, Tryz.ntmps57
 go_upto_region 5 with (fail)
 go_cut [3] (fun t wx => ∃ gi, t = .pointer (some ⟨gi, 0, none⟩) ∧ w.heap.size ≤ gi ∧ Dp.Row wx gi 143 (Dp.insCells i) ∧ Dp.Keeps (fun _ => False) w wx)
 case first =>
  have HI : Hid (Dp.decode (m.cell m.s.pc) = i) := hi
  clear hi hM h1 h2 h3 h4 h5 h6 h7 hop
  go_region_held3 (fun wx => Dp.Keeps (fun _ => False) w wx)
   (first | with_reducible exact (Dp.Keeps.refl _ _).drew | with_reducible exact Dp.Keeps.drew (Dp.Keeps.alloc (Dp.Keeps.refl _ _) _) | with_reducible exact Dp.Keeps.trans (by with_reducible assumption) k' | with_reducible exact Dp.Keeps.alloc (by with_reducible assumption) _ | with_reducible exact Dp.Keeps.alloc (Dp.Keeps.trans ((Dp.Keeps.refl _ _).drew) k') _ | with_reducible exact Dp.Keeps.set5 (by with_reducible assumption) (Nat.le_refl _) _ _ _ _ _)
   ((go_at_call 84; refine (refDecodeX _ i _ hword HI.out).mono ?_; rintro e w' ⟨rfl, k'⟩; obtain ⟨kc, kf⟩ := Dp.Keeps.cells k'))
  ·go_wp2
   go_meet
   case rel => exact ⟨w'.heap.size, rfl, k'.size, Dp.Row.allocNew w' 143 (Dp.insCells i), (Dp.Keeps.trans ((Dp.Keeps.refl _ _).drew) k').alloc _⟩
  ·go_wp2
   go_meet
   case rel =>
    have hz : Dp.Row w' w.heap.size 143 (Dp.insCells ⟨0, 0, 0, 0, 0⟩) := ((Dp.Row.allocNew w 143 (Dp.insCells ⟨0, 0, 0, 0, 0⟩)).drew).keep k' (fun e => e)
    have hk : Dp.Keeps (fun _ => False) w w' := Dp.Keeps.trans (((Dp.Keeps.refl _ _).alloc _).drew) k'
    exact ⟨w.heap.size, rfl, Nat.le_refl _, ((((hz.set 0 _).set 1 _).set 2 _).set 3 _).set 4 _, hk.set5 (Nat.le_refl _) _ _ _ _ _⟩
 case rest =>
  obtain ⟨gi, rfl, hgi, ri, kw⟩ := hcut
  clear e0 e14 eg c0 c3
  have hp := h1.keep kw (fun e => e)
  have hg := h2.keep kw (fun e => e)
  have hsr := h7.keep kw (fun _ _ e => e)
  have hplt := h1.lt
  have hglt := h2.lt
  have e0 : ∀ wx, Dp.Keeps (fun _ => False) wc wx → wx.cell? ⟨gi, 2, none⟩ = some (.int .i64 i.b) := fun wx kx => ((ri.keep kx (fun e => e)).insC).2.2.1
  have e1 : ∀ wx, Dp.Keeps (fun _ => False) wc wx → wx.cell? ⟨gi, 4, none⟩ = some (.int .i64 i.n) := fun wx kx => ((ri.keep kx (fun e => e)).insC).2.2.2.2
  have e2 : ∀ wx, Dp.Keeps (fun _ => False) wc wx → wx.cell? ⟨p, 4 + i.b.toNat, none⟩ = some (.int .i64 (m.s.reg i.b)) := fun wx kx => (hp.keep kx (fun e => e)).refReg hl i.b hiok.b
  obtain ⟨i0, i1, i2, i3, i4⟩ := ri.insC
  have hib := hiok.b
  have hin := hiok.n
  have hrb := hok.s.reg i.b
  unfold Dp.isWord at hrb
  have hwr : IntKind.i64.wrap (m.s.reg i.b + i.n) = m.s.reg i.b + i.n := by rw [IntKind.wrap_i64]; omega
  have ht : (i.op == 13) = false := by simp [hop]
  have ht2 : (i.op == 14) = false := by simp [hop]
  have ht3 : (i.op == 19) = false := by simp [hop]
  clear hop
  go_upto_region 21 with (fail)
  clear e0 e1 e2
  have hpd := hp
  have rid := ri
  have hgd := hg
  have kd := kw
  clear hp hg ri i0 i1 i2 i3 i4 hsr kw
  generalize wc = wd at *
  have q0 : ∀ wx, Dp.Keeps (fun _ => False) wd wx → wx.cell? ⟨gi, 0, none⟩ = some (.int .i64 i.op) := fun wx kx => ((rid.keep kx (fun e => e)).insC).1
  have q1 : ∀ wx, Dp.Keeps (fun _ => False) wd wx → wx.cell? ⟨gi, 1, none⟩ = some (.int .i64 i.a) := fun wx kx => ((rid.keep kx (fun e => e)).insC).2.1
  have q2 : ∀ wx, Dp.Keeps (fun _ => False) wd wx → wx.cell? ⟨gi, 2, none⟩ = some (.int .i64 i.b) := fun wx kx => ((rid.keep kx (fun e => e)).insC).2.2.1
  have q3 : ∀ wx, Dp.Keeps (fun _ => False) wd wx → wx.cell? ⟨gi, 3, none⟩ = some (.int .i64 i.c) := fun wx kx => ((rid.keep kx (fun e => e)).insC).2.2.2.1
  have q4 : ∀ wx, Dp.Keeps (fun _ => False) wd wx → wx.cell? ⟨gi, 4, none⟩ = some (.int .i64 i.n) := fun wx kx => ((rid.keep kx (fun e => e)).insC).2.2.2.2
  have q14 : ∀ wx, Dp.Keeps (fun _ => False) wd wx → wx.cell? ⟨p, 14, none⟩ = some (.slice (some ⟨g, 0, none⟩) 256 (256 + tail.length)) := fun wx kx => ((hpd.keep kx (fun e => e)).refC hl).2.2.2.2.2.2.1
  have HLS : Hid (∀ wx, Dp.Keeps (fun _ => False) wd wx → (Instr.loadAt 74 (.pointer (some ⟨p, 0, none⟩))).run Tryz.prog wx = .ok (.agg (Dp.stCells m.s r).toArray) wx) := fun wx kx => runLoadSt (show Dp.Row wx p 113 (Dp.stCells m.s r ++ _) from hpd.keep kx (fun e => e)) hl
  have hS0 : Dp.Keeps (fun _ => False) wd wd.drew := (Dp.Keeps.refl _ _).drew
  have hpok := Dp.plain_ok hok.s i
  have hlen := Dp.stCells_length (Dp.plain m.s i).1 r hpok.len
  have HSZ : Hid ((Dp.stCells (Dp.plain m.s i).1 r).toArray.size = 13) := by unfold Hid; rw [List.size_toArray]; exact hlen
  go_cut [6, 7] (fun t e wx => e = .int .i64 (Dp.plain m.s i).2 ∧ ∃ gs, t = .pointer (some ⟨gs, 0, none⟩) ∧ wd.heap.size ≤ gs ∧ Dp.Row wx gs 74 (Dp.stCells (Dp.plain m.s i).1 r) ∧ Dp.Keeps (fun _ => False) wd wx)
  case first =>
   refine Dp.wp_region_K (fun wx => Dp.Keeps (fun _ => False) wd wx) 11 mixedZ ?_
   refine' Dp.wpAnyK_take 0 rfl (by kernel_rfl) (fun _ _ _ h => h) (by rfl) ?hy0 hS0 ?rest0
   case hy0 => intro wx hSx; go_simp; try with_reducible rfl
   simp only [Act.put, Dp.tks]
   refine' Dp.wpAnyK_take 1 rfl (by kernel_rfl) (fun _ _ _ h => h) (by rfl) ?hy1 hS0 ?rest1
   case hy1 => intro wx hSx; go_simp; try with_reducible rfl
   simp only [Act.put, Dp.tks]
   refine' Dp.wpAnyK_take 2 rfl (by kernel_rfl) (fun _ _ _ h => h) (by rfl) ?hy2 hS0 ?rest2
   case hy2 => intro wx hSx; go_simp; try with_reducible rfl
   simp only [Act.put, Dp.tks]
   refine Dp.wpAnyK_take 3 rfl (by kernel_rfl) (fun _ _ _ h => h) (by rfl) (fun wx hSx => Dp.run_load_op rfl rfl (HLS.out wx hSx)) hS0 ?_
   simp only [Act.put, Dp.tks]
   refine' Dp.wpAnyK_take 4 rfl (by kernel_rfl) (fun _ _ _ h => h) (by rfl) ?hy4 hS0 ?rest4
   case hy4 => intro wx hSx; go_simp; try with_reducible rfl
   simp only [Act.put, Dp.tks]
   refine Dp.wpAnyK_two 5 9 rfl rfl (by kernel_rfl) (by rfl) (by rfl) (fun K hK => ?_) (fun K hK => ?_)
   ·skip
    go_simp
    refine (refPlainX m.s r i _ hok.s hiok).mono ?_
    rintro e w' ⟨rfl, k'⟩
    have hS1 := hS0.trans k'
    refine hK _ _ ⟨fun _ => hS1, ?_⟩
    clear hK K
    refine' Dp.wpAnyK_take 6 rfl (by kernel_rfl) (fun _ _ _ h => h) (by rfl) ?hyB6 hS1 ?restB6
    case hyB6 => intro wx hSx; go_simp; try with_reducible rfl
    simp only [Act.put, Dp.tks]
    refine' Dp.wpAnyK_take 7 rfl (by kernel_rfl) (fun _ _ _ h => h) (by rfl) ?hyB7 hS1 ?restB7
    case hyB7 => intro wx hSx; go_simp; try with_reducible rfl
    simp only [Act.put, Dp.tks]
    refine' Dp.wpAnyK_take 8 rfl (by kernel_rfl) (fun _ _ _ h => h) (by rfl) ?hyB8 hS1 ?restB8
    case hyB8 => intro wx hSx; go_simp; try with_reducible rfl
    simp only [Act.put, Dp.tks]
    refine Dp.wpAnyK_one 9 rfl (by kernel_rfl) (by rfl) (fun K hK => ?_)
    refine Dp.wp_alloc_row 74 rfl _ zeroState ?_
    intro w3 r3 z3 k3
    refine hK _ _ ⟨fun _ => hS1.trans k3, ?_⟩
    clear hK K
    have HTH := Hid.mk_ (r3.there 0 13 (by decide))
    have HROW := Hid.mk_ (Dp.Row.setCells _ (Dp.stCells (Dp.plain m.s i).1 r) [] [] w3 (Dp.row_nil r3) (by rw [hlen]; rfl))
    simp only [List.nil_append, List.append_nil, List.length_nil] at HROW
    have HGS := Hid.mk_ hS1.size
    have HKS : Hid (Dp.Keeps (fun _ => False) wd (w3.setCells w'.heap.size 0 (Dp.stCells (Dp.plain m.s i).1 r))) := Dp.Keeps.setCells _ _ _ (hS1.trans k3) (.inl hS1.size)
    simp only [Act.put, Dp.tks]
    refine Dp.wpAnyK_one 10 rfl (by kernel_rfl) (by rfl) (fun K hK => ?_)
    refine wp_store_mid _ _ _ rfl _ _ (Dp.stCells (Dp.plain m.s i).1 r).toArray rfl rfl (by rw [HSZ.out]; exact HTH.out) (by rw [sizeState, HSZ.out]) (all_oneCell_toArray (Dp.stCells_one _ _)) ?_
    refine hK _ _ ⟨fun _ => HKS.out, ?_⟩
    clear hK K
    refine Dp.wpAnyK_one 11 rfl (by kernel_rfl) (by rfl) (fun K hK => ?_)
    go_simp
    refine hK _ _ ⟨fun h => absurd rfl h, ?_⟩
    clear hK K
    refine Dp.wpAnyK_done (by kernel_rfl) ?_ _
    go_wp2
    go_meet
    case rel => exact ⟨rfl, _, rfl, HGS.out, HROW.out, HKS.out⟩
   ·refine Dp.wp_alloc_row 74 rfl _ zeroState ?_
    intro w3 r3 z3 k3
    have hS2 := hS0.trans k3
    refine hK _ _ ⟨fun _ => hS2, ?_⟩
    clear hK K
    simp only [Act.put, Dp.tks]
    refine Dp.wpAnyK_one 5 rfl (by kernel_rfl) (by rfl) (fun K hK => ?_)
    go_simp
    refine (refPlainX m.s r i _ hok.s hiok).mono ?_
    rintro e w' ⟨rfl, k'⟩
    have hS1 := hS2.trans k'
    refine hK _ _ ⟨fun _ => hS1, ?_⟩
    clear hK K
    refine' Dp.wpAnyK_take 6 rfl (by kernel_rfl) (fun _ _ _ h => h) (by rfl) ?hyC6 hS1 ?restC6
    case hyC6 => intro wx hSx; go_simp; try with_reducible rfl
    simp only [Act.put, Dp.tks]
    refine' Dp.wpAnyK_take 7 rfl (by kernel_rfl) (fun _ _ _ h => h) (by rfl) ?hyC7 hS1 ?restC7
    case hyC7 => intro wx hSx; go_simp; try with_reducible rfl
    simp only [Act.put, Dp.tks]
    refine' Dp.wpAnyK_take 8 rfl (by kernel_rfl) (fun _ _ _ h => h) (by rfl) ?hyC8 hS1 ?restC8
    case hyC8 => intro wx hSx; go_simp; try with_reducible rfl
    simp only [Act.put, Dp.tks]
    have r3 := r3.keep k' (fun e => e)
    have HTH := Hid.mk_ (r3.there 0 13 (by decide))
    have HROW := Hid.mk_ (Dp.Row.setCells _ (Dp.stCells (Dp.plain m.s i).1 r) [] [] w' (Dp.row_nil r3) (by rw [hlen]; rfl))
    simp only [List.nil_append, List.append_nil, List.length_nil] at HROW
    have HGS := Hid.mk_ (Nat.le_refl wd.heap.size)
    have HKS : Hid (Dp.Keeps (fun _ => False) wd (w'.setCells wd.heap.size 0 (Dp.stCells (Dp.plain m.s i).1 r))) := Dp.Keeps.setCells _ _ _ hS1 (.inl (Nat.le_refl _))
    refine Dp.wpAnyK_one 10 rfl (by kernel_rfl) (by rfl) (fun K hK => ?_)
    refine wp_store_mid _ _ _ rfl _ _ (Dp.stCells (Dp.plain m.s i).1 r).toArray rfl rfl (by rw [HSZ.out]; exact HTH.out) (by rw [sizeState, HSZ.out]) (all_oneCell_toArray (Dp.stCells_one _ _)) ?_
    refine hK _ _ ⟨fun _ => HKS.out, ?_⟩
    clear hK K
    refine Dp.wpAnyK_one 11 rfl (by kernel_rfl) (by rfl) (fun K hK => ?_)
    go_simp
    refine hK _ _ ⟨fun h => absurd rfl h, ?_⟩
    clear hK K
    refine Dp.wpAnyK_done (by kernel_rfl) ?_ _
    go_wp2
    go_meet
    case rel => exact ⟨rfl, _, rfl, HGS.out, HROW.out, HKS.out⟩
  case rest =>
   obtain ⟨rfl, gs, rfl, hgs, rgs, kk⟩ := hcut
   clear q0 q1 q2 q3 q4 q14 HLS hS0
   have hpk := hpd.keep kk (fun e => e)
   have hmk := (hM.keep kd (fun e => e) (fun e => e) (fun _ _ e => e)).keep kk (fun e => e) (fun e => e) (fun _ _ e => e)
   by_cases he : (Dp.plain m.s i).2 = 0
   ·have heb : ((Dp.plain m.s i).2 == 0) = true := by simpa using he
    rw [he] at heb ⊢
    have HR := Hid.mk_ (Dp.row_nil rgs)
    have HP : Hid (Dp.Row wc p 113 ([] ++ Dp.stCells m.s r ++ [.bool stale, .slice (some ⟨g, 0, none⟩) 256 (256 + tail.length), vs])) := hpk
    go_wp2_with (refine Dp.wpList_load_in rfl 74 _ rfl gs 0 rfl 74 [] _ [] HR.out rfl _ Tryz.underlying74 rfl (by rw [sizeState, hlen]) ?_)
    intro _
    go_wp2_with (refine Dp.wpList_store_in rfl 74 _ _ rfl p 0 rfl (Dp.stCells (Dp.plain m.s i).1 r) rfl 113 [] _ _ HP.out rfl (by rw [hlen, Dp.stCells_length _ _ hl]) (by rw [sizeState, hlen]) (Dp.stCells_one _ _) ?_)
    intro w4 r4 z4 k4
    go_wp2
    go_ret
    have hgk := (hgd.keep kk (fun e => e))
    have hgp : g ≠ p := hgk.ne hpk (by decide)
    have hsp := hmk.src.ne hpk (by decide)
    refine ⟨by rw [he]; rfl, ?_, ⟨⟨hpok, hok.len, hok.cells, hok.srcs, hok.src⟩, ⟨r, stale, tail, by simpa [Dp.refCells] using r4, hgk.keep k4 hgp, h3, h4, h5, h6⟩, hmk.src.keep k4 hsp⟩⟩
    exact ((kd.trans kk).mono (fun _ _ e => e.elim)).next k4 (fun _ _ e => .inl e)
   ·have heb : ((Dp.plain m.s i).2 == 0) = false := by simpa using he
    have hse := Dp.plain_same m.s i he
    have HSE := Hid.mk_ hse
    clear hse
    go_wp2
    go_ret
    rw [HSE.out]
    exact ⟨rfl, (kd.trans kk).mono (fun _ _ e => e.elim), hmk⟩
end Go.Proofs.YtdipojfngdceoaaGreatDoor

namespace Go.Proofs.YtdipojfngdceoaaGreatDoor
open Go.RowKit
set_option maxRecDepth 100000 in
set_option maxHeartbeats 1000000 in
theorem refStep (w : World) (p g : Nat) (vs : Value) (m : Dp.Mach) (h : Dp.RefM w p g vs m) :
  Calls Tryz.prog 57 #[.pointer (some ⟨p, 0, none⟩)] w fun e w' => e = .returned (.int .i64 m.step.2) ∧ Dp.Keeps (fun k => k = p ∨ k = g) w w' ∧ Dp.RefM w' p g vs m.step.1 := by
 unfold Dp.Mach.step
 by_cases hov : m.s.over = true
 ·rw [if_pos hov]
  obtain ⟨hok, ⟨r, stale, tail, h1, h2, h3, h4, h5, h6⟩, h7⟩ := id h
  obtain ⟨_, _, _, c3, _⟩ := h1.refC hok.s.len
  rw [hov] at c3
  clear h1 h2 h3 h4 h5 h6 h7
  go_enter Tryz.func57, Tryz.ntmps57
  go_wp2
  go_ret
  exact ⟨rfl, Dp.Keeps.refl _ _, h⟩
 rw [if_neg hov]
 have hov' : m.s.over = false := by simpa using hov
 by_cases hpc : m.s.pc ≥ 256
 ·rw [if_pos hpc]
  obtain ⟨hok, ⟨r, stale, tail, h1, h2, h3, h4, h5, h6⟩, h7⟩ := id h
  obtain ⟨c0, _, _, c3, _⟩ := h1.refC hok.s.len
  rw [hov'] at c3
  clear h1 h2 h3 h4 h5 h6 h7
  have hpc' : 256 ≤ m.s.pc := hpc
  go_enter Tryz.func57, Tryz.ntmps57
  go_wp2
  go_ret
  exact ⟨rfl, Dp.Keeps.refl _ _, h⟩
 rw [if_neg hpc]
 have hpc' : m.s.pc < 256 := by omega
 simp only
 generalize hi : Dp.decode (m.cell m.s.pc) = i
 by_cases h13 : i.op = 13 ∨ i.op = 14
 ·rw [if_pos h13]
  by_cases hn : Dp.wrap (m.s.reg i.b + i.n) ≥ 256
  ·rw [if_pos hn]; exact refStepFar w p g vs m h hov' hpc' i hi h13 hn
  ·rw [if_neg hn]
   by_cases h14 : i.op = 14
   ·rw [if_pos h14]; exact refStepStore w p g vs m h hov' hpc' i hi h14 (by omega)
   ·rw [if_neg h14]; exact refStepLoad w p g vs m h hov' hpc' i hi (by omega) (by omega)
 ·rw [if_neg h13]
  by_cases h19 : i.op = 19
  ·rw [if_pos h19]
   rcases Dp.findIdx_cases m.srcs (m.s.reg i.b) with ⟨h1, h2⟩ | ⟨k, hk, h1, h2⟩
   ·rw [h2]; exact refStepAskNone w p g vs m h hov' hpc' i hi h19 h1
   ·rw [h2]; exact refStepAskSome w p g vs m h hov' hpc' i hi h19 k hk h1
  ·rw [if_neg h19]
   exact refStepPlain w p g vs m h hov' hpc' i hi ⟨by omega, by omega, h19⟩
set_option maxRecDepth 100000 in
set_option maxHeartbeats 1000000 in
theorem refRunErr (w : World) (p : Nat) (n : Int) (hn : n < 0 ∨ 100000 < n) :
  Calls Tryz.prog 58 #[.pointer (some ⟨p, 0, none⟩), .int .i64 n] w fun e w' => e = .returned (.tuple #[.int .i64 0, .int .i64 1]) ∧ w' = w := by
 rcases hn with hn | hn
 ·go_enter Tryz.func58, Tryz.ntmps58
  go_wp2
  go_ret2
  exact ⟨rfl, rfl⟩
 ·have hn' : ¬ n < 0 := by omega
  go_enter Tryz.func58, Tryz.ntmps58
  go_wp2
  go_ret2
  exact ⟨rfl, rfl⟩
set_option maxRecDepth 100000 in
set_option maxHeartbeats 1000000 in
theorem refRun (w : World) (p g : Nat) (vs : Value) (m : Dp.Mach) (h : Dp.RefM w p g vs m) (n : Nat) (hn : n ≤ 100000) :
  Calls Tryz.prog 58 #[.pointer (some ⟨p, 0, none⟩), .int .i64 n] w fun e w' => e = .returned (.tuple #[.int .i64 ((Dp.Mach.run n m).2.1 : Int), .int .i64 (Dp.Mach.run n m).2.2]) ∧ Dp.Keeps (fun k => k = p ∨ k = g) w w' ∧ Dp.RefM w' p g vs (Dp.Mach.run n m).1 := by
 have hn0 : ¬ (n : Int) < 0 := by omega
 have hn1 : ¬ (100000 : Int) < (n : Int) := by omega
 go_enter Tryz.func58, Tryz.ntmps58
 go_wp2
 go_loopw [6] (fun i wr => ∃ k : Nat, k ≤ n ∧ i = .int .i64 k ∧ (∀ j, j < k → ((Dp.Mach.after m j).s.over = false ∧ (Dp.Mach.after m j).step.2 = 0)) ∧ Dp.RefM wr p g vs (Dp.Mach.after m k) ∧ Dp.Keeps (fun k => k = p ∨ k = g) w wr) (fun i _ => n - (intOf i).toNat)
 case atStart => exact ⟨0, Nat.zero_le _, rfl, fun j hj => absurd hj (by omega), h, Dp.Keeps.refl _ _⟩
 case round =>
  obtain ⟨k, hk, rfl, hno, hm, hkp⟩ := hrel
  have HR := Hid.mk_ (Dp.Mach.run_reach _ k m hno rfl)
  have HNO := Hid.mk_ hno
  clear hno
  by_cases hlt : k < n
  ·have hm' := hm
   obtain ⟨hok, ⟨r, stale, tail, h1, h2, h3, h4, h5, h6⟩, h7⟩ := hm'
   obtain ⟨_, _, _, c3, _⟩ := h1.refC hok.s.len
   clear h1 h2 h3 h4 h5 h6 h7
   have hnk := HR.out (n - k)
   rw [show k + (n - k) = n by omega, show n - k = (n - k - 1) + 1 by omega] at hnk
   have HN := Hid.mk_ hnk
   clear hnk
   cases hov : (Dp.Mach.after m k).s.over with
   | true =>
    rw [hov] at c3
    have hrun : Dp.Mach.run (n - k - 1 + 1) (Dp.Mach.after m k) = (Dp.Mach.after m k, 0, 0) := by unfold Dp.Mach.run; rw [if_pos hov]
    have HX : Hid (Dp.Mach.run n m = (Dp.Mach.after m k, 0 + k, 0)) := by unfold Hid; rw [HN.out, hrun]
    clear hrun
    go_wp2
    go_ret2
    rw [HX.out]
    exact ⟨by simp, hkp, hm⟩
   | false =>
    rw [hov] at c3
    have HOV := Hid.mk_ hov
    clear hov
    go_wp2_with fail
    refine (refStep wr p g vs _ hm).mono ?_
    rintro e w2 ⟨rfl, k2, m2⟩
    by_cases he : (Dp.Mach.after m k).step.2 = 0
    ·have heb : ((Dp.Mach.after m k).step.2 != 0) = false := by simp [he]
     have HE := Hid.mk_ he
     clear he
     go_wp2
     go_roundw
     case rel => exact ⟨k + 1, by omega, by go_num, fun j hj => by
      by_cases e : j = k
      ·subst e; exact ⟨HOV.out, HE.out⟩
      ·exact HNO.out j (by omega), m2, hkp.trans k2⟩
     case measure => simp [intOf]; omega
    ·have heb : ((Dp.Mach.after m k).step.2 != 0) = true := by simp [he]
     have hrun : Dp.Mach.run (n - k - 1 + 1) (Dp.Mach.after m k) = (Dp.Mach.after m k, 0, (Dp.Mach.after m k).step.2) := by
      unfold Dp.Mach.run; rw [if_neg (by rw [HOV.out]; simp), if_pos he]
     have HX : Hid (Dp.Mach.run n m = (Dp.Mach.after m k, 0 + k, (Dp.Mach.after m k).step.2)) := by unfold Hid; rw [HN.out, hrun]
     have HSM := Hid.mk_ (Dp.step_same _ he)
     clear hrun he
     go_wp2
     go_ret2
     rw [HX.out]
     rw [HSM.out] at m2
     exact ⟨by simp, hkp.trans k2, m2⟩
  ·obtain rfl : k = n := by omega
   have hrun := HR.out 0
   rw [Nat.add_zero] at hrun
   have HX : Hid (Dp.Mach.run k m = (Dp.Mach.after m k, 0 + k, 0)) := hrun
   clear hrun
   go_wp2
   go_ret2
   rw [HX.out]
   exact ⟨by simp, hkp, hm⟩
end Go.Proofs.YtdipojfngdceoaaGreatDoor
