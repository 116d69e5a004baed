/- Steps on the way: RefStepB, RefStepC, RefStepD. -/
import Derived.Test.YtdipojfngdceoaaGreatDoorShQ09
import Derived.Test.YtdipojfngdceoaaGreatDoorShQ15
namespace Go.Proofs.YtdipojfngdceoaaGreatDoor
open Go.RowKit
attribute [local go_sem ↓] Go.wp_at_zero Go.wp_at_succ
set_option maxRecDepth 100000 in
set_option maxHeartbeats 2000000 in
theorem refStepLoad (w : World) (p g : Nat) (vs : Value) (m : Dp.Mach) (h : Dp.RefM w p g vs m) (hov : m.s.over = false) (hpc : m.s.pc < 256) (i : Dp.Ins) (hi : Dp.decode (m.cell m.s.pc) = i) (hop : i.op = 13) (hn : Dp.wrap (m.s.reg i.b + i.n) < 256) :
  Calls Tryz.prog 57 #[.pointer (some ⟨p, 0, none⟩)] w fun e w' => e = .returned (.int .i64 0) ∧ Dp.Keeps (fun k => k = p ∨ k = g) w w' ∧ Dp.RefM w' p g vs { m with s := Dp.moved m.s i (m.cell (Dp.wrap (m.s.reg i.b + i.n))) true } := by
 have hM := h
 obtain ⟨hok, ⟨r, stale, tail, h1, h2, h3, h4, h5, h6⟩, h7⟩ := h
 have hl := hok.s.len
 have hpc0 := hok.s.pc.1
 have hiok : i.Ok := hi ▸ Dp.decode_ok _ (hok.cell _)
 have hword := hok.cell m.s.pc
 have e0 : ∀ wx, Dp.Keeps (fun _ => False) w wx → wx.cell? ⟨p, 0, none⟩ = some (.int .i64 m.s.pc) := fun wx kx => ((h1.keep kx (fun e => e)).refC hl).1
 have e14 : ∀ wx, Dp.Keeps (fun _ => False) w wx → wx.cell? ⟨p, 14, none⟩ = some (.slice (some ⟨g, 0, none⟩) 256 (256 + tail.length)) := fun wx kx => ((h1.keep kx (fun e => e)).refC hl).2.2.2.2.2.2.1
 have eg : ∀ wx, Dp.Keeps (fun _ => False) w wx → wx.cell? ⟨g, m.s.pc.toNat, none⟩ = some (.int .i64 (m.cell m.s.pc)) := fun wx kx => (h2.keep kx (fun e => e)).cellWord hok.len _ (by omega)
 obtain ⟨c0, _, _, c3, _, _, _, _⟩ := h1.refC hl
 rw [hov] at c3
 go_enter Tryz.func57, Tryz.ntmps57
 go_upto_region 5 with (fail)
 go_cut [3] (fun t wx => ∃ gi, t = .pointer (some ⟨gi, 0, none⟩) ∧ w.heap.size ≤ gi ∧ Dp.Row wx gi 143 (Dp.insCells i) ∧ Dp.Keeps (fun _ => False) w wx)
 case first =>
  have HI : Hid (Dp.decode (m.cell m.s.pc) = i) := hi
  clear hi hM h1 h2 h3 h4 h5 h6 h7 hop hn
  go_region_held3 (fun wx => Dp.Keeps (fun _ => False) w wx)
   (first | with_reducible exact (Dp.Keeps.refl _ _).drew | with_reducible exact Dp.Keeps.drew (Dp.Keeps.alloc (Dp.Keeps.refl _ _) _) | with_reducible exact Dp.Keeps.trans (by with_reducible assumption) k' | with_reducible exact Dp.Keeps.alloc (by with_reducible assumption) _ | with_reducible exact Dp.Keeps.alloc (Dp.Keeps.trans ((Dp.Keeps.refl _ _).drew) k') _ | with_reducible exact Dp.Keeps.set5 (by with_reducible assumption) (Nat.le_refl _) _ _ _ _ _)
   ((go_at_call 84; refine (refDecodeX _ i _ hword HI.out).mono ?_; rintro e w' ⟨rfl, k'⟩; obtain ⟨kc, kf⟩ := Dp.Keeps.cells k'))
  ·go_wp2
   go_meet
   case rel => exact ⟨w'.heap.size, rfl, k'.size, Dp.Row.allocNew w' 143 (Dp.insCells i), (Dp.Keeps.trans ((Dp.Keeps.refl _ _).drew) k').alloc _⟩
  ·go_wp2
   go_meet
   case rel =>
    have hz : Dp.Row w' w.heap.size 143 (Dp.insCells ⟨0, 0, 0, 0, 0⟩) := ((Dp.Row.allocNew w 143 (Dp.insCells ⟨0, 0, 0, 0, 0⟩)).drew).keep k' (fun e => e)
    have hk : Dp.Keeps (fun _ => False) w w' := Dp.Keeps.trans (((Dp.Keeps.refl _ _).alloc _).drew) k'
    exact ⟨w.heap.size, rfl, Nat.le_refl _, ((((hz.set 0 _).set 1 _).set 2 _).set 3 _).set 4 _, hk.set5 (Nat.le_refl _) _ _ _ _ _⟩
 case rest =>
  obtain ⟨gi, rfl, hgi, ri, kw⟩ := hcut
  clear e0 e14 eg c0 c3
  have hp := h1.keep kw (fun e => e)
  have hg := h2.keep kw (fun e => e)
  have hsr := h7.keep kw (fun _ _ e => e)
  have hplt := h1.lt
  have hglt := h2.lt
  have e0 : ∀ wx, Dp.Keeps (fun _ => False) wc wx → wx.cell? ⟨gi, 2, none⟩ = some (.int .i64 i.b) := fun wx kx => ((ri.keep kx (fun e => e)).insC).2.2.1
  have e1 : ∀ wx, Dp.Keeps (fun _ => False) wc wx → wx.cell? ⟨gi, 4, none⟩ = some (.int .i64 i.n) := fun wx kx => ((ri.keep kx (fun e => e)).insC).2.2.2.2
  have e2 : ∀ wx, Dp.Keeps (fun _ => False) wc wx → wx.cell? ⟨p, 4 + i.b.toNat, none⟩ = some (.int .i64 (m.s.reg i.b)) := fun wx kx => (hp.keep kx (fun e => e)).refReg hl i.b hiok.b
  obtain ⟨i0, i1, i2, i3, i4⟩ := ri.insC
  have hib := hiok.b
  have hin := hiok.n
  have hrb := hok.s.reg i.b
  unfold Dp.isWord at hrb
  have hwr : IntKind.i64.wrap (m.s.reg i.b + i.n) = m.s.reg i.b + i.n := by rw [IntKind.wrap_i64]; omega
  have ht : (i.op == 13) = true := by simp [hop]
  have ht2 : (i.op == 14) = false := by simp [hop]
  have HOP := Hid.mk_ hop
  clear hop
  go_wp2
  go_region_held3 (fun wx => Dp.Keeps (fun _ => False) wc wx) (with_reducible exact (Dp.Keeps.refl _ _).drew) ((go_at_call 85; refine (refWrap _ _).mono ?_; rintro e w' ⟨rfl, rfl⟩))
  have hnw := Dp.wrap_word (m.s.reg i.b + i.n)
  unfold Dp.isWord at hnw
  clear e0 e1 e2
  generalize hN : Dp.wrap (m.s.reg i.b + i.n) = N at *
  have HN := Hid.mk_ hN
  clear hN
  have hcw := hok.cell N
  go_wp2
  have kd : Dp.Keeps (fun _ => False) w wc.drew := kw.drew
  have md := hM.keep kd (fun e => e) (fun e => e) (fun _ _ e => e)
  have hpd : Dp.Row wc.drew p 113 _ := hp
  have hgd : Dp.Row wc.drew g 3 _ := hg
  have rid : Dp.Row wc.drew gi 143 _ := ri
  clear hp hg ri i0 i1 i2 i3 i4 hsr kw
  generalize wc.drew = wd at *
  have hlen256 := hok.len
  have q0 : ∀ wx, Dp.Keeps (fun _ => False) wd wx → wx.cell? ⟨gi, 0, none⟩ = some (.int .i64 i.op) := fun wx kx => ((rid.keep kx (fun e => e)).insC).1
  have q1 : ∀ wx, Dp.Keeps (fun _ => False) wd wx → wx.cell? ⟨gi, 1, none⟩ = some (.int .i64 i.a) := fun wx kx => ((rid.keep kx (fun e => e)).insC).2.1
  have q2 : ∀ wx, Dp.Keeps (fun _ => False) wd wx → wx.cell? ⟨gi, 2, none⟩ = some (.int .i64 i.b) := fun wx kx => ((rid.keep kx (fun e => e)).insC).2.2.1
  have q3 : ∀ wx, Dp.Keeps (fun _ => False) wd wx → wx.cell? ⟨gi, 3, none⟩ = some (.int .i64 i.c) := fun wx kx => ((rid.keep kx (fun e => e)).insC).2.2.2.1
  have q4 : ∀ wx, Dp.Keeps (fun _ => False) wd wx → wx.cell? ⟨gi, 4, none⟩ = some (.int .i64 i.n) := fun wx kx => ((rid.keep kx (fun e => e)).insC).2.2.2.2
  have qg : ∀ wx, Dp.Keeps (fun _ => False) wd wx → wx.cell? ⟨g, N.toNat, none⟩ = some (.int .i64 (m.cell N)) := fun wx kx => Dp.Row.cellWord (m := m) (hgd.keep kx (fun e => e)) hlen256 _ (by omega)
  have q14 : ∀ wx, Dp.Keeps (fun _ => False) wd wx → wx.cell? ⟨p, 14, none⟩ = some (.slice (some ⟨g, 0, none⟩) 256 (256 + tail.length)) := fun wx kx => ((hpd.keep kx (fun e => e)).refC hl).2.2.2.2.2.2.1
  have HLS : Hid (∀ wx, Dp.Keeps (fun _ => False) wd wx → (Instr.loadAt 74 (.pointer (some ⟨p, 0, none⟩))).run Tryz.prog wx = .ok (.agg (Dp.stCells m.s r).toArray) wx) := fun wx kx => runLoadSt (show Dp.Row wx p 113 (Dp.stCells m.s r ++ _) from hpd.keep kx (fun e => e)) hl
  have hS0 : Dp.Keeps (fun _ => False) wd wd.drew := (Dp.Keeps.refl _ _).drew
  refine Dp.wp_region_K (fun wx => Dp.Keeps (fun _ => False) wd wx) 19 mixedZ ?_
  refine' Dp.wpAnyK_take 0 rfl (by kernel_rfl) (fun _ _ _ h => h) (by rfl) ?hy0 hS0 ?rest0
  case hy0 => intro wx hSx; go_simp; try with_reducible rfl
  simp only [Act.put, Dp.tks]
  refine' Dp.wpAnyK_take 1 rfl (by kernel_rfl) (fun _ _ _ h => h) (by rfl) ?hy1 hS0 ?rest1
  case hy1 => intro wx hSx; go_simp; try with_reducible rfl
  simp only [Act.put, Dp.tks]
  refine' Dp.wpAnyK_take 2 rfl (by kernel_rfl) (fun _ _ _ h => h) (by rfl) ?hy2 hS0 ?rest2
  case hy2 => intro wx hSx; go_simp; try with_reducible rfl
  simp only [Act.put, Dp.tks]
  refine' Dp.wpAnyK_take 3 rfl (by kernel_rfl) (fun _ _ _ h => h) (by rfl) ?hy3 hS0 ?rest3
  case hy3 => intro wx hSx; go_simp; try with_reducible rfl
  simp only [Act.put, Dp.tks]
  refine Dp.wpAnyK_take 4 rfl (by kernel_rfl) (fun _ _ _ h => h) (by rfl) (fun wx hSx => Dp.run_load_op rfl rfl (HLS.out wx hSx)) hS0 ?_
  simp only [Act.put, Dp.tks]
  refine' Dp.wpAnyK_take 5 rfl (by kernel_rfl) (fun _ _ _ h => h) (by rfl) ?hy5 hS0 ?rest5
  case hy5 => intro wx hSx; go_simp; try with_reducible rfl
  simp only [Act.put, Dp.tks]
  refine' Dp.wpAnyK_take 6 rfl (by kernel_rfl) (fun _ _ _ h => h) (by rfl) ?hy6 hS0 ?rest6
  case hy6 => intro wx hSx; go_simp; try with_reducible rfl
  simp only [Act.put, Dp.tks]
  refine' Dp.wpAnyK_take 7 rfl (by kernel_rfl) (fun _ _ _ h => h) (by rfl) ?hy7 hS0 ?rest7
  case hy7 => intro wx hSx; go_simp; try with_reducible rfl
  simp only [Act.put, Dp.tks]
  refine' Dp.wpAnyK_take 8 rfl (by kernel_rfl) (fun _ _ _ h => h) (by rfl) ?hy8 hS0 ?rest8
  case hy8 => intro wx hSx; go_simp; try with_reducible rfl
  simp only [Act.put, Dp.tks]
  refine' Dp.wpAnyK_take 9 rfl (by kernel_rfl) (fun _ _ _ h => h) (by rfl) ?hy9 hS0 ?rest9
  case hy9 => intro wx hSx; go_simp; try with_reducible rfl
  simp only [Act.put, Dp.tks]
  refine' Dp.wpAnyK_take 10 rfl (by kernel_rfl) (fun _ _ _ h => h) (by rfl) ?hy10 hS0 ?rest10
  case hy10 => intro wx hSx; go_simp; try with_reducible rfl
  simp only [Act.put, Dp.tks]
  refine' Dp.wpAnyK_take 11 rfl (by kernel_rfl) (fun _ _ _ h => h) (by rfl) ?hy11 hS0 ?rest11
  case hy11 => intro wx hSx; go_simp; try with_reducible rfl
  simp only [Act.put, Dp.tks]
  refine' Dp.wpAnyK_take 12 rfl (by kernel_rfl) (fun _ _ _ h => h) (by rfl) ?hy12 hS0 ?rest12
  case hy12 => intro wx hSx; go_simp; try with_reducible rfl
  simp only [Act.put, Dp.tks]
  refine' Dp.wpAnyK_take 13 rfl (by kernel_rfl) (fun _ _ _ h => h) (by rfl) ?hy13 hS0 ?rest13
  case hy13 => intro wx hSx; go_simp; try with_reducible rfl
  simp only [Act.put, Dp.tks]
  refine' Dp.wpAnyK_take 14 rfl (by kernel_rfl) (fun _ _ _ h => h) (by rfl) ?hy14 hS0 ?rest14
  case hy14 => intro wx hSx; go_simp; try with_reducible rfl
  simp only [Act.put, Dp.tks]
  refine' Dp.wpAnyK_take 15 rfl (by kernel_rfl) (fun _ _ _ h => h) (by rfl) ?hy15 hS0 ?rest15
  case hy15 => intro wx hSx; go_simp; try with_reducible rfl
  simp only [Act.put, Dp.tks]
  refine Dp.wpAnyK_one 16 rfl (by kernel_rfl) (by rfl) (fun K hK => ?_)
  go_simp
  refine (refMovedX m.s r i (m.cell N) true _ hok.s hiok).mono ?_
  rintro e w' ⟨rfl, k'⟩
  refine hK _ _ ⟨fun _ => hS0.trans k', ?_⟩
  clear hK K
  have hS1 := hS0.trans k'
  refine Dp.wpAnyK_one 17 rfl (by kernel_rfl) (by rfl) (fun K hK => ?_)
  go_simp
  refine hK _ _ ⟨fun _ => hS1, ?_⟩
  clear hK K
  refine Dp.wpAnyK_one 18 rfl (by kernel_rfl) (by rfl) (fun K hK => ?_)
  go_simp
  refine hK _ _ ⟨fun _ => hS1, ?_⟩
  clear hK K
  refine Dp.wpAnyK_one 19 rfl (by kernel_rfl) (by rfl) (fun K hK => ?_)
  have hth := (hpd.keep hS1 (fun e => e)).there 0 13 (by rw [Dp.refCells_length _ _ _ _ _ hl]; omega)
  have hlen := Dp.stCells_length (Dp.moved m.s i (m.cell N) true) r (Dp.moved_ok hok.s i (m.cell N) true hcw).len
  refine wp_store_mid _ _ _ rfl _ _ (Dp.stCells (Dp.moved m.s i (m.cell N) true) r).toArray rfl rfl (by rw [List.size_toArray, hlen]; exact hth) (by rw [sizeState, List.size_toArray, hlen]) (all_oneCell_toArray (Dp.stCells_one _ _)) ?_
  refine hK _ _ ⟨fun h => absurd rfl h, ?_⟩
  clear hK K
  refine Dp.wpAnyK_done (by kernel_rfl) ?_ _
  go_wp2
  go_ret
  refine ⟨rfl, ?_, ?_⟩
  ·exact Dp.Keeps.setCells _ _ _ ((kd.trans hS1).mono (fun _ _ e => e.elim)) (.inr (.inl rfl))
  ·rw [HN.out]; exact (md.keep hS1 (fun e => e) (fun e => e) (fun _ _ e => e)).store r stale tail (hpd.keep hS1 (fun e => e)) (hgd.keep hS1 (fun e => e)) h3 h4 h5 h6 _ (Dp.moved_ok hok.s i (m.cell N) true hcw)
end Go.Proofs.YtdipojfngdceoaaGreatDoor

namespace Go.Proofs.YtdipojfngdceoaaGreatDoor
open Go.RowKit
attribute [local go_sem ↓] Go.wp_at_zero Go.wp_at_succ
set_option maxRecDepth 100000 in
set_option maxHeartbeats 2000000 in
theorem refStepStore (w : World) (p g : Nat) (vs : Value) (m : Dp.Mach) (h : Dp.RefM w p g vs m) (hov : m.s.over = false) (hpc : m.s.pc < 256) (i : Dp.Ins) (hi : Dp.decode (m.cell m.s.pc) = i) (hop : i.op = 14) (hn : Dp.wrap (m.s.reg i.b + i.n) < 256) :
  Calls Tryz.prog 57 #[.pointer (some ⟨p, 0, none⟩)] w fun e w' => e = .returned (.int .i64 0) ∧ Dp.Keeps (fun k => k = p ∨ k = g) w w' ∧ Dp.RefM w' p g vs { m with s := Dp.moved m.s i 0 false, cells := m.cells.set (Dp.wrap (m.s.reg i.b + i.n)).toNat (m.s.reg i.a) } := by
 have hM := h
 obtain ⟨hok, ⟨r, stale, tail, h1, h2, h3, h4, h5, h6⟩, h7⟩ := h
 have hl := hok.s.len
 have hpc0 := hok.s.pc.1
 have hiok : i.Ok := hi ▸ Dp.decode_ok _ (hok.cell _)
 have hword := hok.cell m.s.pc
 have e0 : ∀ wx, Dp.Keeps (fun _ => False) w wx → wx.cell? ⟨p, 0, none⟩ = some (.int .i64 m.s.pc) := fun wx kx => ((h1.keep kx (fun e => e)).refC hl).1
 have e14 : ∀ wx, Dp.Keeps (fun _ => False) w wx → wx.cell? ⟨p, 14, none⟩ = some (.slice (some ⟨g, 0, none⟩) 256 (256 + tail.length)) := fun wx kx => ((h1.keep kx (fun e => e)).refC hl).2.2.2.2.2.2.1
 have eg : ∀ wx, Dp.Keeps (fun _ => False) w wx → wx.cell? ⟨g, m.s.pc.toNat, none⟩ = some (.int .i64 (m.cell m.s.pc)) := fun wx kx => (h2.keep kx (fun e => e)).cellWord hok.len _ (by omega)
 obtain ⟨c0, _, _, c3, _, _, _, _⟩ := h1.refC hl
 rw [hov] at c3
 go_enter Tryz.func57, Tryz.ntmps57
 go_upto_region 5 with (fail)
 go_cut [3] (fun t wx => ∃ gi, t = .pointer (some ⟨gi, 0, none⟩) ∧ w.heap.size ≤ gi ∧ Dp.Row wx gi 143 (Dp.insCells i) ∧ Dp.Keeps (fun _ => False) w wx)
 case first =>
  have HI : Hid (Dp.decode (m.cell m.s.pc) = i) := hi
  clear hi hM h1 h2 h3 h4 h5 h6 h7 hop hn
  go_region_held3 (fun wx => Dp.Keeps (fun _ => False) w wx)
   (first | with_reducible exact (Dp.Keeps.refl _ _).drew | with_reducible exact Dp.Keeps.drew (Dp.Keeps.alloc (Dp.Keeps.refl _ _) _) | with_reducible exact Dp.Keeps.trans (by with_reducible assumption) k' | with_reducible exact Dp.Keeps.alloc (by with_reducible assumption) _ | with_reducible exact Dp.Keeps.alloc (Dp.Keeps.trans ((Dp.Keeps.refl _ _).drew) k') _ | with_reducible exact Dp.Keeps.set5 (by with_reducible assumption) (Nat.le_refl _) _ _ _ _ _)
   ((go_at_call 84; refine (refDecodeX _ i _ hword HI.out).mono ?_; rintro e w' ⟨rfl, k'⟩; obtain ⟨kc, kf⟩ := Dp.Keeps.cells k'))
  ·go_wp2
   go_meet
   case rel => exact ⟨w'.heap.size, rfl, k'.size, Dp.Row.allocNew w' 143 (Dp.insCells i), (Dp.Keeps.trans ((Dp.Keeps.refl _ _).drew) k').alloc _⟩
  ·go_wp2
   go_meet
   case rel =>
    have hz : Dp.Row w' w.heap.size 143 (Dp.insCells ⟨0, 0, 0, 0, 0⟩) := ((Dp.Row.allocNew w 143 (Dp.insCells ⟨0, 0, 0, 0, 0⟩)).drew).keep k' (fun e => e)
    have hk : Dp.Keeps (fun _ => False) w w' := Dp.Keeps.trans (((Dp.Keeps.refl _ _).alloc _).drew) k'
    exact ⟨w.heap.size, rfl, Nat.le_refl _, ((((hz.set 0 _).set 1 _).set 2 _).set 3 _).set 4 _, hk.set5 (Nat.le_refl _) _ _ _ _ _⟩
 case rest =>
  obtain ⟨gi, rfl, hgi, ri, kw⟩ := hcut
  clear e0 e14 eg c0 c3
  have hp := h1.keep kw (fun e => e)
  have hg := h2.keep kw (fun e => e)
  have hsr := h7.keep kw (fun _ _ e => e)
  have hplt := h1.lt
  have hglt := h2.lt
  have e0 : ∀ wx, Dp.Keeps (fun _ => False) wc wx → wx.cell? ⟨gi, 2, none⟩ = some (.int .i64 i.b) := fun wx kx => ((ri.keep kx (fun e => e)).insC).2.2.1
  have e1 : ∀ wx, Dp.Keeps (fun _ => False) wc wx → wx.cell? ⟨gi, 4, none⟩ = some (.int .i64 i.n) := fun wx kx => ((ri.keep kx (fun e => e)).insC).2.2.2.2
  have e2 : ∀ wx, Dp.Keeps (fun _ => False) wc wx → wx.cell? ⟨p, 4 + i.b.toNat, none⟩ = some (.int .i64 (m.s.reg i.b)) := fun wx kx => (hp.keep kx (fun e => e)).refReg hl i.b hiok.b
  obtain ⟨i0, i1, i2, i3, i4⟩ := ri.insC
  have hib := hiok.b
  have hin := hiok.n
  have hrb := hok.s.reg i.b
  unfold Dp.isWord at hrb
  have hwr : IntKind.i64.wrap (m.s.reg i.b + i.n) = m.s.reg i.b + i.n := by rw [IntKind.wrap_i64]; omega
  have ht : (i.op == 13) = false := by simp [hop]
  have ht2 : (i.op == 14) = true := by simp [hop]
  have HOP := Hid.mk_ hop
  clear hop
  go_wp2
  go_region_held3 (fun wx => Dp.Keeps (fun _ => False) wc wx) (with_reducible exact (Dp.Keeps.refl _ _).drew) ((go_at_call 85; refine (refWrap _ _).mono ?_; rintro e w' ⟨rfl, rfl⟩))
  have hnw := Dp.wrap_word (m.s.reg i.b + i.n)
  unfold Dp.isWord at hnw
  clear e0 e1 e2
  generalize hN : Dp.wrap (m.s.reg i.b + i.n) = N at *
  have HN := Hid.mk_ hN
  clear hN
  have hcw := hok.cell N
  go_wp2
  have kd : Dp.Keeps (fun _ => False) w wc.drew := kw.drew
  have md := hM.keep kd (fun e => e) (fun e => e) (fun _ _ e => e)
  have hpd : Dp.Row wc.drew p 113 _ := hp
  have hgd : Dp.Row wc.drew g 3 _ := hg
  have rid : Dp.Row wc.drew gi 143 _ := ri
  clear hp hg ri i0 i1 i2 i3 i4 hsr kw
  generalize wc.drew = wd at *
  have hlen256 := hok.len
  have hia := hiok.a
  have hra := hok.s.reg i.a
  have qa : ∀ wx, Dp.Keeps (fun _ => False) wd wx → wx.cell? ⟨p, 4 + i.a.toNat, none⟩ = some (.int .i64 (m.s.reg i.a)) := fun wx kx => (hpd.keep kx (fun e => e)).refReg hl i.a hiok.a
  have q0 : ∀ wx, Dp.Keeps (fun _ => False) wd wx → wx.cell? ⟨gi, 0, none⟩ = some (.int .i64 i.op) := fun wx kx => ((rid.keep kx (fun e => e)).insC).1
  have q1 : ∀ wx, Dp.Keeps (fun _ => False) wd wx → wx.cell? ⟨gi, 1, none⟩ = some (.int .i64 i.a) := fun wx kx => ((rid.keep kx (fun e => e)).insC).2.1
  have q2 : ∀ wx, Dp.Keeps (fun _ => False) wd wx → wx.cell? ⟨gi, 2, none⟩ = some (.int .i64 i.b) := fun wx kx => ((rid.keep kx (fun e => e)).insC).2.2.1
  have q3 : ∀ wx, Dp.Keeps (fun _ => False) wd wx → wx.cell? ⟨gi, 3, none⟩ = some (.int .i64 i.c) := fun wx kx => ((rid.keep kx (fun e => e)).insC).2.2.2.1
  have q4 : ∀ wx, Dp.Keeps (fun _ => False) wd wx → wx.cell? ⟨gi, 4, none⟩ = some (.int .i64 i.n) := fun wx kx => ((rid.keep kx (fun e => e)).insC).2.2.2.2
  have qg : ∀ wx, Dp.Keeps (fun _ => False) wd wx → wx.cell? ⟨g, N.toNat, none⟩ = some (.int .i64 (m.cell N)) := fun wx kx => Dp.Row.cellWord (m := m) (hgd.keep kx (fun e => e)) hlen256 _ (by omega)
  have q14 : ∀ wx, Dp.Keeps (fun _ => False) wd wx → wx.cell? ⟨p, 14, none⟩ = some (.slice (some ⟨g, 0, none⟩) 256 (256 + tail.length)) := fun wx kx => ((hpd.keep kx (fun e => e)).refC hl).2.2.2.2.2.2.1
  have HLS : Hid (∀ wx, Dp.Keeps (fun _ => False) wd wx → (Instr.loadAt 74 (.pointer (some ⟨p, 0, none⟩))).run Tryz.prog wx = .ok (.agg (Dp.stCells m.s r).toArray) wx) := fun wx kx => runLoadSt (show Dp.Row wx p 113 (Dp.stCells m.s r ++ _) from hpd.keep kx (fun e => e)) hl
  have hS0 : Dp.Keeps (fun _ => False) wd wd.drew := (Dp.Keeps.refl _ _).drew
  have cg := qg wd.drew hS0
  have fg : wd.drew.frozen? ⟨g, N.toNat, none⟩ = false := hgd.frozen _
  refine Dp.wp_region_K (fun wx => Dp.Keeps (fun _ => False) wd wx) 14 mixedZ ?_
  refine' Dp.wpAnyK_take 0 rfl (by kernel_rfl) (fun _ _ _ h => h) (by rfl) ?hyA0 hS0 ?restA0
  case hyA0 => intro wx hSx; go_simp; try with_reducible rfl
  simp only [Act.put, Dp.tks]
  refine' Dp.wpAnyK_take 1 rfl (by kernel_rfl) (fun _ _ _ h => h) (by rfl) ?hyA1 hS0 ?restA1
  case hyA1 => intro wx hSx; go_simp; try with_reducible rfl
  simp only [Act.put, Dp.tks]
  refine' Dp.wpAnyK_take 2 rfl (by kernel_rfl) (fun _ _ _ h => h) (by rfl) ?hyA2 hS0 ?restA2
  case hyA2 => intro wx hSx; go_simp; try with_reducible rfl
  simp only [Act.put, Dp.tks]
  refine' Dp.wpAnyK_take 3 rfl (by kernel_rfl) (fun _ _ _ h => h) (by rfl) ?hyA3 hS0 ?restA3
  case hyA3 => intro wx hSx; go_simp; try with_reducible rfl
  simp only [Act.put, Dp.tks]
  refine' Dp.wpAnyK_take 4 rfl (by kernel_rfl) (fun _ _ _ h => h) (by rfl) ?hyA4 hS0 ?restA4
  case hyA4 => intro wx hSx; go_simp; try with_reducible rfl
  simp only [Act.put, Dp.tks]
  refine' Dp.wpAnyK_take 5 rfl (by kernel_rfl) (fun _ _ _ h => h) (by rfl) ?hyA5 hS0 ?restA5
  case hyA5 => intro wx hSx; go_simp; try with_reducible rfl
  simp only [Act.put, Dp.tks]
  refine' Dp.wpAnyK_take 6 rfl (by kernel_rfl) (fun _ _ _ h => h) (by rfl) ?hyA6 hS0 ?restA6
  case hyA6 => intro wx hSx; go_simp; try with_reducible rfl
  simp only [Act.put, Dp.tks]
  refine' Dp.wpAnyK_take 7 rfl (by kernel_rfl) (fun _ _ _ h => h) (by rfl) ?hyA7 hS0 ?restA7
  case hyA7 => intro wx hSx; go_simp; try with_reducible rfl
  simp only [Act.put, Dp.tks]
  refine' Dp.wpAnyK_take 8 rfl (by kernel_rfl) (fun _ _ _ h => h) (by rfl) ?hyA8 hS0 ?restA8
  case hyA8 => intro wx hSx; go_simp; try with_reducible rfl
  simp only [Act.put, Dp.tks]
  refine' Dp.wpAnyK_take 9 rfl (by kernel_rfl) (fun _ _ _ h => h) (by rfl) ?hyA9 hS0 ?restA9
  case hyA9 => intro wx hSx; go_simp; try with_reducible rfl
  simp only [Act.put, Dp.tks]
  refine' Dp.wpAnyK_take 10 rfl (by kernel_rfl) (fun _ _ _ h => h) (by rfl) ?hyA10 hS0 ?restA10
  case hyA10 => intro wx hSx; go_simp; try with_reducible rfl
  simp only [Act.put, Dp.tks]
  refine' Dp.wpAnyK_take 11 rfl (by kernel_rfl) (fun _ _ _ h => h) (by rfl) ?hyA11 hS0 ?restA11
  case hyA11 => intro wx hSx; go_simp; try with_reducible rfl
  simp only [Act.put, Dp.tks]
  refine' Dp.wpAnyK_take 12 rfl (by kernel_rfl) (fun _ _ _ h => h) (by rfl) ?hyA12 hS0 ?restA12
  case hyA12 => intro wx hSx; go_simp; try with_reducible rfl
  simp only [Act.put, Dp.tks]
  refine' Dp.wpAnyK_take 13 rfl (by kernel_rfl) (fun _ _ _ h => h) (by rfl) ?hyA13 hS0 ?restA13
  case hyA13 => intro wx hSx; go_simp; try with_reducible rfl
  simp only [Act.put, Dp.tks]
  refine Dp.wpAnyK_one 14 rfl (by kernel_rfl) (by rfl) (fun K hK => ?_)
  go_simp
  refine hK _ _ ⟨fun h => absurd rfl h, ?_⟩
  clear hK K
  refine Dp.wpAnyK_done (by kernel_rfl) ?_ _
  have hgp : g ≠ p := hgd.ne hpd (by decide)
  have hgi2 : gi ≠ g := rid.ne hgd (by decide)
  have hgi3 : gi ≠ p := rid.ne hpd (by decide)
  have c13 := (hpd.refC hl).2.2.2.2.2.1
  have f13 := hpd.frozen 13
  go_upto_region 13 with (fail)
  have kd2 : Dp.Keeps (fun k => k = p ∨ k = g) w ((wd.setCell ⟨g, N.toNat, none⟩ (.int .i64 (m.s.reg i.a))).setCell ⟨p, 13, none⟩ (.bool true)).drew := (((kd.mono (fun _ _ e => e.elim)).setCell (.inr (.inr rfl)) _).setCell (.inr (.inl rfl)) _).drew
  have md2 := Dp.RefM.storeCell md r stale tail hpd hgd h4 h5 h6 N (by omega) (m.s.reg i.a) hra
  have hpd2 := Dp.refCells_stale hpd hgp (.int .i64 (m.s.reg i.a)) N.toNat hl
  have hgd2 := Dp.regCells_put hgd hgp N (by omega) hlen256 (m.s.reg i.a)
  have rid2 : Dp.Row ((wd.setCell ⟨g, N.toNat, none⟩ (.int .i64 (m.s.reg i.a))).setCell ⟨p, 13, none⟩ (.bool true)).drew gi 143 (Dp.insCells i) := ((rid.setOther ⟨g, N.toNat, none⟩ (.int .i64 (m.s.reg i.a)) hgi2).setOther ⟨p, 13, none⟩ (.bool true) hgi3).drew
  clear hpd hgd rid md q0 q1 q2 q3 q4 qg q14 qa HLS hS0 cg fg c13 f13 kd
  generalize hW : ((wd.setCell ⟨g, N.toNat, none⟩ (.int .i64 (m.s.reg i.a))).setCell ⟨p, 13, none⟩ (.bool true)).drew = wd2 at *
  clear hW
  have kd := kd2
  have md := md2
  have hpd := hpd2
  have hgd := hgd2
  have rid := rid2
  clear kd2 md2 hpd2 hgd2 rid2
  have hlen256 : (m.cells.set N.toNat (m.s.reg i.a)).length = 256 := by rw [List.length_set]; exact hok.len
  have q0 : ∀ wx, Dp.Keeps (fun _ => False) wd2 wx → wx.cell? ⟨gi, 0, none⟩ = some (.int .i64 i.op) := fun wx kx => ((rid.keep kx (fun e => e)).insC).1
  have q1 : ∀ wx, Dp.Keeps (fun _ => False) wd2 wx → wx.cell? ⟨gi, 1, none⟩ = some (.int .i64 i.a) := fun wx kx => ((rid.keep kx (fun e => e)).insC).2.1
  have q2 : ∀ wx, Dp.Keeps (fun _ => False) wd2 wx → wx.cell? ⟨gi, 2, none⟩ = some (.int .i64 i.b) := fun wx kx => ((rid.keep kx (fun e => e)).insC).2.2.1
  have q3 : ∀ wx, Dp.Keeps (fun _ => False) wd2 wx → wx.cell? ⟨gi, 3, none⟩ = some (.int .i64 i.c) := fun wx kx => ((rid.keep kx (fun e => e)).insC).2.2.2.1
  have q4 : ∀ wx, Dp.Keeps (fun _ => False) wd2 wx → wx.cell? ⟨gi, 4, none⟩ = some (.int .i64 i.n) := fun wx kx => ((rid.keep kx (fun e => e)).insC).2.2.2.2
  have qg : ∀ wx, Dp.Keeps (fun _ => False) wd2 wx → wx.cell? ⟨g, N.toNat, none⟩ = some (.int .i64 ((Dp.Mach.mk m.s (m.cells.set N.toNat (m.s.reg i.a)) m.srcs).cell N)) := fun wx kx => Dp.Row.cellWord (m := (Dp.Mach.mk m.s (m.cells.set N.toNat (m.s.reg i.a)) m.srcs)) (hgd.keep kx (fun e => e)) hlen256 _ (by omega)
  have q14 : ∀ wx, Dp.Keeps (fun _ => False) wd2 wx → wx.cell? ⟨p, 14, none⟩ = some (.slice (some ⟨g, 0, none⟩) 256 (256 + tail.length)) := fun wx kx => ((hpd.keep kx (fun e => e)).refC hl).2.2.2.2.2.2.1
  have HLS : Hid (∀ wx, Dp.Keeps (fun _ => False) wd2 wx → (Instr.loadAt 74 (.pointer (some ⟨p, 0, none⟩))).run Tryz.prog wx = .ok (.agg (Dp.stCells m.s r).toArray) wx) := fun wx kx => runLoadSt (show Dp.Row wx p 113 (Dp.stCells m.s r ++ _) from hpd.keep kx (fun e => e)) hl
  have hS0 : Dp.Keeps (fun _ => False) wd2 wd2.drew := (Dp.Keeps.refl _ _).drew
  refine Dp.wp_region_K (fun wx => Dp.Keeps (fun _ => False) wd2 wx) 19 mixedZ ?_
  refine' Dp.wpAnyK_take 0 rfl (by kernel_rfl) (fun _ _ _ h => h) (by rfl) ?hy0 hS0 ?rest0
  case hy0 => intro wx hSx; go_simp; try with_reducible rfl
  simp only [Act.put, Dp.tks]
  refine' Dp.wpAnyK_take 1 rfl (by kernel_rfl) (fun _ _ _ h => h) (by rfl) ?hy1 hS0 ?rest1
  case hy1 => intro wx hSx; go_simp; try with_reducible rfl
  simp only [Act.put, Dp.tks]
  refine' Dp.wpAnyK_take 2 rfl (by kernel_rfl) (fun _ _ _ h => h) (by rfl) ?hy2 hS0 ?rest2
  case hy2 => intro wx hSx; go_simp; try with_reducible rfl
  simp only [Act.put, Dp.tks]
  refine' Dp.wpAnyK_take 3 rfl (by kernel_rfl) (fun _ _ _ h => h) (by rfl) ?hy3 hS0 ?rest3
  case hy3 => intro wx hSx; go_simp; try with_reducible rfl
  simp only [Act.put, Dp.tks]
  refine Dp.wpAnyK_take 4 rfl (by kernel_rfl) (fun _ _ _ h => h) (by rfl) (fun wx hSx => Dp.run_load_op rfl rfl (HLS.out wx hSx)) hS0 ?_
  simp only [Act.put, Dp.tks]
  refine' Dp.wpAnyK_take 5 rfl (by kernel_rfl) (fun _ _ _ h => h) (by rfl) ?hy5 hS0 ?rest5
  case hy5 => intro wx hSx; go_simp; try with_reducible rfl
  simp only [Act.put, Dp.tks]
  refine' Dp.wpAnyK_take 6 rfl (by kernel_rfl) (fun _ _ _ h => h) (by rfl) ?hy6 hS0 ?rest6
  case hy6 => intro wx hSx; go_simp; try with_reducible rfl
  simp only [Act.put, Dp.tks]
  refine' Dp.wpAnyK_take 7 rfl (by kernel_rfl) (fun _ _ _ h => h) (by rfl) ?hy7 hS0 ?rest7
  case hy7 => intro wx hSx; go_simp; try with_reducible rfl
  simp only [Act.put, Dp.tks]
  refine' Dp.wpAnyK_take 8 rfl (by kernel_rfl) (fun _ _ _ h => h) (by rfl) ?hy8 hS0 ?rest8
  case hy8 => intro wx hSx; go_simp; try with_reducible rfl
  simp only [Act.put, Dp.tks]
  refine' Dp.wpAnyK_take 9 rfl (by kernel_rfl) (fun _ _ _ h => h) (by rfl) ?hy9 hS0 ?rest9
  case hy9 => intro wx hSx; go_simp; try with_reducible rfl
  simp only [Act.put, Dp.tks]
  refine' Dp.wpAnyK_take 10 rfl (by kernel_rfl) (fun _ _ _ h => h) (by rfl) ?hy10 hS0 ?rest10
  case hy10 => intro wx hSx; go_simp; try with_reducible rfl
  simp only [Act.put, Dp.tks]
  refine' Dp.wpAnyK_take 11 rfl (by kernel_rfl) (fun _ _ _ h => h) (by rfl) ?hy11 hS0 ?rest11
  case hy11 => intro wx hSx; go_simp; try with_reducible rfl
  simp only [Act.put, Dp.tks]
  refine' Dp.wpAnyK_take 12 rfl (by kernel_rfl) (fun _ _ _ h => h) (by rfl) ?hy12 hS0 ?rest12
  case hy12 => intro wx hSx; go_simp; try with_reducible rfl
  simp only [Act.put, Dp.tks]
  refine' Dp.wpAnyK_take 13 rfl (by kernel_rfl) (fun _ _ _ h => h) (by rfl) ?hy13 hS0 ?rest13
  case hy13 => intro wx hSx; go_simp; try with_reducible rfl
  simp only [Act.put, Dp.tks]
  refine' Dp.wpAnyK_take 14 rfl (by kernel_rfl) (fun _ _ _ h => h) (by rfl) ?hy14 hS0 ?rest14
  case hy14 => intro wx hSx; go_simp; try with_reducible rfl
  simp only [Act.put, Dp.tks]
  refine' Dp.wpAnyK_take 15 rfl (by kernel_rfl) (fun _ _ _ h => h) (by rfl) ?hy15 hS0 ?rest15
  case hy15 => intro wx hSx; go_simp; try with_reducible rfl
  simp only [Act.put, Dp.tks]
  refine Dp.wpAnyK_one 16 rfl (by kernel_rfl) (by rfl) (fun K hK => ?_)
  go_simp
  refine (refMovedX m.s r i ((Dp.Mach.mk m.s (m.cells.set N.toNat (m.s.reg i.a)) m.srcs).cell N) false _ hok.s hiok).mono ?_
  rintro e w' ⟨rfl, k'⟩
  refine hK _ _ ⟨fun _ => hS0.trans k', ?_⟩
  clear hK K
  have hS1 := hS0.trans k'
  refine Dp.wpAnyK_one 17 rfl (by kernel_rfl) (by rfl) (fun K hK => ?_)
  go_simp
  refine hK _ _ ⟨fun _ => hS1, ?_⟩
  clear hK K
  refine Dp.wpAnyK_one 18 rfl (by kernel_rfl) (by rfl) (fun K hK => ?_)
  go_simp
  refine hK _ _ ⟨fun _ => hS1, ?_⟩
  clear hK K
  refine Dp.wpAnyK_one 19 rfl (by kernel_rfl) (by rfl) (fun K hK => ?_)
  have hth := (hpd.keep hS1 (fun e => e)).there 0 13 (by rw [Dp.refCells_length _ _ _ _ _ hl]; omega)
  have hlen := Dp.stCells_length (Dp.moved m.s i 0 false) r hok.s.len
  refine wp_store_mid _ _ _ rfl _ _ (Dp.stCells (Dp.moved m.s i 0 false) r).toArray rfl rfl (by rw [List.size_toArray, hlen]; exact hth) (by rw [sizeState, List.size_toArray, hlen]) (all_oneCell_toArray (Dp.stCells_one _ _)) ?_
  refine hK _ _ ⟨fun h => absurd rfl h, ?_⟩
  clear hK K
  refine Dp.wpAnyK_done (by kernel_rfl) ?_ _
  go_wp2
  go_ret
  refine ⟨rfl, ?_, ?_⟩
  ·exact Dp.Keeps.setCells _ _ _ (kd.next hS1 (fun _ _ e => e.elim)) (.inr (.inl rfl))
  ·rw [HN.out]; exact (md.keep hS1 (fun e => e) (fun e => e) (fun _ _ e => e)).store r true tail (hpd.keep hS1 (fun e => e)) (hgd.keep hS1 (fun e => e)) (fun e => by cases e) h4 h5 h6 _ (Dp.moved_ok hok.s i 0 false (by unfold Dp.isWord; omega))
end Go.Proofs.YtdipojfngdceoaaGreatDoor

namespace Go.Proofs.YtdipojfngdceoaaGreatDoor
open Go.RowKit
attribute [local go_sem ↓] Go.wp_at_zero Go.wp_at_succ
set_option maxRecDepth 100000 in
set_option maxHeartbeats 2000000 in
theorem refStepAskNone (w : World) (p g : Nat) (vs : Value) (m : Dp.Mach) (h : Dp.RefM w p g vs m) (hov : m.s.over = false) (hpc : m.s.pc < 256) (i : Dp.Ins) (hi : Dp.decode (m.cell m.s.pc) = i) (hop : i.op = 19) (hn : Dp.findIdx m.srcs (m.s.reg i.b) = -1) :
  Calls Tryz.prog 57 #[.pointer (some ⟨p, 0, none⟩)] w fun e w' => e = .returned (.int .i64 5) ∧ Dp.Keeps (fun k => k = p ∨ k = g) w w' ∧ Dp.RefM w' p g vs m := by
 have hM := h
 obtain ⟨hok, ⟨r, stale, tail, h1, h2, h3, h4, h5, h6⟩, h7⟩ := h
 have hl := hok.s.len
 have hpc0 := hok.s.pc.1
 have hiok : i.Ok := hi ▸ Dp.decode_ok _ (hok.cell _)
 have hword := hok.cell m.s.pc
 have e0 : ∀ wx, Dp.Keeps (fun _ => False) w wx → wx.cell? ⟨p, 0, none⟩ = some (.int .i64 m.s.pc) := fun wx kx => ((h1.keep kx (fun e => e)).refC hl).1
 have e14 : ∀ wx, Dp.Keeps (fun _ => False) w wx → wx.cell? ⟨p, 14, none⟩ = some (.slice (some ⟨g, 0, none⟩) 256 (256 + tail.length)) := fun wx kx => ((h1.keep kx (fun e => e)).refC hl).2.2.2.2.2.2.1
 have eg : ∀ wx, Dp.Keeps (fun _ => False) w wx → wx.cell? ⟨g, m.s.pc.toNat, none⟩ = some (.int .i64 (m.cell m.s.pc)) := fun wx kx => (h2.keep kx (fun e => e)).cellWord hok.len _ (by omega)
 obtain ⟨c0, _, _, c3, _, _, _, _⟩ := h1.refC hl
 rw [hov] at c3
 go_enter Tryz.func57, Tryz.ntmps57
 go_upto_region 5 with (fail)
 go_cut [3] (fun t wx => ∃ gi, t = .pointer (some ⟨gi, 0, none⟩) ∧ w.heap.size ≤ gi ∧ Dp.Row wx gi 143 (Dp.insCells i) ∧ Dp.Keeps (fun _ => False) w wx)
 case first =>
  have HI : Hid (Dp.decode (m.cell m.s.pc) = i) := hi
  clear hi hM h1 h2 h3 h4 h5 h6 h7 hop hn
  go_region_held3 (fun wx => Dp.Keeps (fun _ => False) w wx)
   (first | with_reducible exact (Dp.Keeps.refl _ _).drew | with_reducible exact Dp.Keeps.drew (Dp.Keeps.alloc (Dp.Keeps.refl _ _) _) | with_reducible exact Dp.Keeps.trans (by with_reducible assumption) k' | with_reducible exact Dp.Keeps.alloc (by with_reducible assumption) _ | with_reducible exact Dp.Keeps.alloc (Dp.Keeps.trans ((Dp.Keeps.refl _ _).drew) k') _ | with_reducible exact Dp.Keeps.set5 (by with_reducible assumption) (Nat.le_refl _) _ _ _ _ _)
   ((go_at_call 84; refine (refDecodeX _ i _ hword HI.out).mono ?_; rintro e w' ⟨rfl, k'⟩; obtain ⟨kc, kf⟩ := Dp.Keeps.cells k'))
  ·go_wp2
   go_meet
   case rel => exact ⟨w'.heap.size, rfl, k'.size, Dp.Row.allocNew w' 143 (Dp.insCells i), (Dp.Keeps.trans ((Dp.Keeps.refl _ _).drew) k').alloc _⟩
  ·go_wp2
   go_meet
   case rel =>
    have hz : Dp.Row w' w.heap.size 143 (Dp.insCells ⟨0, 0, 0, 0, 0⟩) := ((Dp.Row.allocNew w 143 (Dp.insCells ⟨0, 0, 0, 0, 0⟩)).drew).keep k' (fun e => e)
    have hk : Dp.Keeps (fun _ => False) w w' := Dp.Keeps.trans (((Dp.Keeps.refl _ _).alloc _).drew) k'
    exact ⟨w.heap.size, rfl, Nat.le_refl _, ((((hz.set 0 _).set 1 _).set 2 _).set 3 _).set 4 _, hk.set5 (Nat.le_refl _) _ _ _ _ _⟩
 case rest =>
  obtain ⟨gi, rfl, hgi, ri, kw⟩ := hcut
  clear e0 e14 eg c0 c3
  have hp := h1.keep kw (fun e => e)
  have hg := h2.keep kw (fun e => e)
  have hsr := h7.keep kw (fun _ _ e => e)
  have hplt := h1.lt
  have hglt := h2.lt
  have e0 : ∀ wx, Dp.Keeps (fun _ => False) wc wx → wx.cell? ⟨gi, 2, none⟩ = some (.int .i64 i.b) := fun wx kx => ((ri.keep kx (fun e => e)).insC).2.2.1
  have e1 : ∀ wx, Dp.Keeps (fun _ => False) wc wx → wx.cell? ⟨gi, 4, none⟩ = some (.int .i64 i.n) := fun wx kx => ((ri.keep kx (fun e => e)).insC).2.2.2.2
  have e2 : ∀ wx, Dp.Keeps (fun _ => False) wc wx → wx.cell? ⟨p, 4 + i.b.toNat, none⟩ = some (.int .i64 (m.s.reg i.b)) := fun wx kx => (hp.keep kx (fun e => e)).refReg hl i.b hiok.b
  obtain ⟨i0, i1, i2, i3, i4⟩ := ri.insC
  have hib := hiok.b
  have hin := hiok.n
  have hrb := hok.s.reg i.b
  unfold Dp.isWord at hrb
  have hwr : IntKind.i64.wrap (m.s.reg i.b + i.n) = m.s.reg i.b + i.n := by rw [IntKind.wrap_i64]; omega
  have ht : (i.op == 13) = false := by simp [hop]
  have ht2 : (i.op == 14) = false := by simp [hop]
  have ht3 : (i.op == 19) = true := by simp [hop]
  have HOP := Hid.mk_ hop
  clear hop
  have MC := Hid.mk_ (hM.keep kw.drew (fun e => e) (fun e => e) (fun _ _ e => e))
  have HF := Hid.mk_ hn
  clear hn
  go_wp2
  go_region_held3 (fun wx => Dp.Keeps (fun _ => False) wc wx) (with_reducible exact (Dp.Keeps.refl _ _).drew) ((go_at_call 87; refine (refSource _ p g vs m MC.out (m.s.reg i.b)).mono ?_; rintro e w' ⟨rfl, rfl⟩))
  rw [HF.out]
  go_wp2
  go_ret
  exact ⟨rfl, (kw.mono (fun _ _ e => e.elim)).drew, hM.keep kw.drew (fun e => e) (fun e => e) (fun _ _ e => e)⟩
end Go.Proofs.YtdipojfngdceoaaGreatDoor
