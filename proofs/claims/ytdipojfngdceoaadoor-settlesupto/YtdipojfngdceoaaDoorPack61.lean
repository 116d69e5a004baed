/- Steps on the way: RefPlainF, RefPlain, RefStepQ, RefUnlabel. -/
import Derived.Test.YtdipojfngdceoaaDoorPack02
import Derived.Test.YtdipojfngdceoaaDoorPack07
import Derived.Test.YtdipojfngdceoaaDoorPack12
import Derived.Test.YtdipojfngdceoaaDoorPack58
import Derived.Test.YtdipojfngdceoaaDoorPack59
import Derived.Test.YtdipojfngdceoaaDoorPack60
import Derived.Test.YtdipojfngdceoaaDoorProg
import Derived.WalkKit
import Derived.WalkSpells
import Derived.WalkLawsBesides
import Derived.BigQuiet
import Derived.Deep.QuietTactic
import Derived.Deep.RegionHeld3
import Derived.Deep.DeepCutAuto
import Derived.Deep.DrawnRows
/- The document's answer: a step without a cell or a source comes to the plain one: instructions 0, 18, D, E. -/
namespace Go.Proofs.YtdipojfngdceoaaDoor
open Go.RowKit

set_option maxRecDepth 100000 in
set_option maxHeartbeats 1000000 in
theorem refPlain0 (s : Dp.Cs) (root : Int) (i : Dp.Ins) (w : World) (hs : s.Ok) (hi : i.Ok) (hop : i.op = 0) :
    Calls Tryd.prog 50 #[Dp.stVal s root, Dp.insVal i] w fun e w' => e = .returned (.tuple #[Dp.stVal (Dp.plain s i).1 root, .int .i64 (Dp.plain s i).2]) ∧ Dp.Keeps (fun _ => False) w w' := by
  rw [Dp.plain_halt s i hop]
  have hpc := hs.pc
  have hst := hs.steps
  have ha := hs.reg i.a
  have hb := hs.reg i.b
  have hc := hs.reg i.c
  unfold Dp.isWord at hpc hst ha hb hc
  go_enter Tryd.func50, Tryd.ntmps50
  go_wp2_with (refine Dp.wpList_box_row rfl 35 _ rfl (Dp.stCells s root) rfl ?_)
  intro w1 r1 z1 k1
  go_wp2_with (refine Dp.wpList_box_row rfl 98 _ rfl (Dp.insCells i) rfl ?_)
  intro w2 r2 z2 k2
  go_wp2_with (refine Dp.wpList_alloc_row rfl 35 rfl _ zeroState ?_)
  intro w3 r3 z3 k3
  have rs := (r1.keep k2 (fun e => e)).keep k3 (fun e => e)
  have ri := r2.keep k3 (fun e => e)
  have r3' : Dp.Row w3 (w.heap.size + 1 + 1) 35 ([] ++ Dp.stCells ⟨0, 0, 0, false, [0, 0, 0, 0, 0, 0, 0, 0]⟩ 0 ++ []) := by rw [List.append_nil, List.nil_append]; exact r3
  have kk : Dp.Keeps (fun _ => False) w w3 := (k1.trans k2).trans k3
  obtain ⟨c0, c1, c2, c3⟩ := rs.st
  obtain ⟨io, ia, ib, ic, inn⟩ := ri.insC
  have cra := rs.stReg hs.len i.a hi.a
  have crb := rs.stReg hs.len i.b hi.b
  have crc := rs.stReg hs.len i.c hi.c
  have f0 := rs.frozen 0
  have f1 := rs.frozen 1
  have f2 := rs.frozen 2
  have f3 := rs.frozen 3
  have fr := rs.frozen (4 + i.a.toNat)
  have hia := hi.a
  have hib := hi.b
  have hic := hi.c
  have hin := hi.n
  have hl := hs.len
  have hlm : (Dp.stCells ⟨s.pc, Dp.wrap (s.steps + 1), s.reg i.a, true, s.regs.set i.a.toNat (s.reg i.a)⟩ root).length = 13 := Dp.stCells_length _ _ (by simp [hl])
  have HM : Hid ((Dp.stCells ⟨s.pc, Dp.wrap (s.steps + 1), s.reg i.a, true, s.regs.set i.a.toNat (s.reg i.a)⟩ root).length = 13) := hlm
  clear r1 z1 k1 r2 z2 k2 r3 z3 k3 ri hlm
  go_wp2_with fail
  refine (refWrap _ _).mono ?_
  rintro e w' ⟨rfl, rfl⟩
  go_wp2_with fail
  refine (refWrap _ _).mono ?_
  rintro e wq ⟨rfl, hq⟩
  have RQ : Dp.Row wq w.heap.size 35 (Dp.stCells ⟨s.pc, s.steps, s.reg i.a, true, s.regs.set i.a.toNat (s.reg i.a)⟩ root) := by
    rw [hq]; exact Dp.halt_head (s.reg i.a) (s.reg i.a) s.pc rs hl hia
  have R3Q : Dp.Row wq (w.heap.size + 1 + 1) 35 ([] ++ Dp.stCells ⟨0, 0, 0, false, [0, 0, 0, 0, 0, 0, 0, 0]⟩ 0 ++ []) := by
    have hne : w.heap.size + 1 + 1 ≠ w.heap.size := by omega
    rw [hq]; exact (((r3'.setOther _ _ hne).setOther _ _ hne).setOther _ _ hne).setOther _ _ hne
  have KQ : Dp.Keeps (fun _ => False) w wq := by
    rw [hq]; exact (((kk.setCell (.inl (Nat.le_refl _)) _).setCell (.inl (Nat.le_refl _)) _).setCell (.inl (Nat.le_refl _)) _).setCell (.inl (Nat.le_refl _)) _
  clear hq c0 c1 c2 c3 io ia ib ic inn cra crb crc f0 f1 f2 f3 fr rs r3' kk
  obtain ⟨_, c1, _, _⟩ := RQ.st
  have f1 := RQ.frozen 1
  have HR := Hid.mk_ (Dp.row_nil (RQ.set 1 (.int .i64 (Dp.wrap (s.steps + 1)))))
  have HR3 := Hid.mk_ (R3Q.setOther ⟨w.heap.size, 1, none⟩ (.int .i64 (Dp.wrap (s.steps + 1))) (show w.heap.size + 1 + 1 ≠ w.heap.size by omega))
  have HR : Hid (Dp.Row (wq.setCell ⟨w.heap.size, 1, none⟩ (.int .i64 (Dp.wrap (s.steps + 1)))) w.heap.size 35 ([] ++ Dp.stCells ⟨s.pc, Dp.wrap (s.steps + 1), s.reg i.a, true, s.regs.set i.a.toNat (s.reg i.a)⟩ root ++ [])) := HR
  go_wp2_with (refine Dp.wpList_load_in rfl 35 _ rfl w.heap.size 0 rfl 35 [] _ [] HR.out rfl _ Tryd.underlying35 rfl (by rw [sizeState, HM.out]) ?_)
  intro _
  go_wp2_with (refine Dp.wpList_store_in rfl 35 _ _ rfl (w.heap.size + 1 + 1) 0 rfl (Dp.stCells ⟨s.pc, Dp.wrap (s.steps + 1), s.reg i.a, true, s.regs.set i.a.toNat (s.reg i.a)⟩ root) rfl 35 [] _ [] HR3.out rfl (by rw [HM.out]; rfl) (by rw [sizeState, HM.out]) (Dp.stCells_one _ _) ?_)
  intro w4 r4 z4 k4
  go_wp2
  have r4' : Dp.Row w4 (w.heap.size + 1 + 1) 35 (Dp.stCells ⟨s.pc, Dp.wrap (s.steps + 1), s.reg i.a, true, s.regs.set i.a.toNat (s.reg i.a)⟩ root) := by simpa using r4
  refine bodyPost_ret (Dp.results_row_tmp rfl _ _ (w.heap.size + 1 + 1) 35 _ _ rfl r4' Tryd.underlying35 rfl (by rw [sizeState, HM.out])) rfl ⟨rfl, ?_⟩
  exact (KQ.setCell (p := ⟨w.heap.size, 1, none⟩) (.inl (Nat.le_refl _)) _).next k4 (fun k hk e => by omega)

set_option maxRecDepth 100000 in
set_option maxHeartbeats 1000000 in
theorem refPlain18 (s : Dp.Cs) (root : Int) (i : Dp.Ins) (w : World) (hs : s.Ok) (hi : i.Ok) (hop : i.op = 18) :
    Calls Tryd.prog 50 #[Dp.stVal s root, Dp.insVal i] w fun e w' => e = .returned (.tuple #[Dp.stVal (Dp.plain s i).1 root, .int .i64 (Dp.plain s i).2]) ∧ Dp.Keeps (fun _ => False) w w' := by
  rw [Dp.plain_form s i (Dp.wrap (s.pc + 1)) (Dp.wrap (s.reg i.b + i.n)) (by rw [hop]; rfl) (by omega) (by omega) (by simp [Dp.aluOf, hop]) (by simp [Dp.nextOf, hop])]
  have hpc := hs.pc
  have hst := hs.steps
  have ha := hs.reg i.a
  have hb := hs.reg i.b
  have hc := hs.reg i.c
  unfold Dp.isWord at hpc hst ha hb hc
  go_enter Tryd.func50, Tryd.ntmps50
  go_wp2_with (refine Dp.wpList_box_row rfl 35 _ rfl (Dp.stCells s root) rfl ?_)
  intro w1 r1 z1 k1
  go_wp2_with (refine Dp.wpList_box_row rfl 98 _ rfl (Dp.insCells i) rfl ?_)
  intro w2 r2 z2 k2
  go_wp2_with (refine Dp.wpList_alloc_row rfl 35 rfl _ zeroState ?_)
  intro w3 r3 z3 k3
  have rs := (r1.keep k2 (fun e => e)).keep k3 (fun e => e)
  have ri := r2.keep k3 (fun e => e)
  have r3' : Dp.Row w3 (w.heap.size + 1 + 1) 35 ([] ++ Dp.stCells ⟨0, 0, 0, false, [0, 0, 0, 0, 0, 0, 0, 0]⟩ 0 ++ []) := by rw [List.append_nil, List.nil_append]; exact r3
  have kk : Dp.Keeps (fun _ => False) w w3 := (k1.trans k2).trans k3
  obtain ⟨c0, c1, c2, c3⟩ := rs.st
  obtain ⟨io, ia, ib, ic, inn⟩ := ri.insC
  have cra := rs.stReg hs.len i.a hi.a
  have crb := rs.stReg hs.len i.b hi.b
  have crc := rs.stReg hs.len i.c hi.c
  have f0 := rs.frozen 0
  have f1 := rs.frozen 1
  have f2 := rs.frozen 2
  have f3 := rs.frozen 3
  have fr := rs.frozen (4 + i.a.toNat)
  have hia := hi.a
  have hib := hi.b
  have hic := hi.c
  have hin := hi.n
  have hl := hs.len
  have hlm : (Dp.stCells ⟨Dp.wrap (s.reg i.b + i.n), Dp.wrap (s.steps + 1), s.code, s.over, s.regs.set i.a.toNat (Dp.wrap (s.pc + 1))⟩ root).length = 13 := Dp.stCells_length _ _ (by simp [hl])
  have HM : Hid ((Dp.stCells ⟨Dp.wrap (s.reg i.b + i.n), Dp.wrap (s.steps + 1), s.code, s.over, s.regs.set i.a.toNat (Dp.wrap (s.pc + 1))⟩ root).length = 13) := hlm
  clear r1 z1 k1 r2 z2 k2 r3 z3 k3 ri hlm
  go_wp2_with fail
  refine (refWrap _ _).mono ?_
  rintro e w' ⟨rfl, rfl⟩
  go_wp2_with fail
  refine (refWrap _ _).mono ?_
  rintro e w' ⟨rfl, rfl⟩
  go_wp2_with fail
  refine (refWrap _ _).mono ?_
  rintro e w' ⟨rfl, rfl⟩
  have HR := Hid.mk_ (Dp.tail_row (i := i) (Dp.wrap (s.pc + 1)) (Dp.wrap (s.reg i.b + i.n)) (Dp.wrap (s.steps + 1)) rs hl hia)
  have HR3 := Hid.mk_ (Dp.tail_other (g := w.heap.size) (4 + i.a.toNat) (.int .i64 (Dp.wrap (s.pc + 1))) (.int .i64 (Dp.wrap (s.reg i.b + i.n))) (.int .i64 (Dp.wrap (s.steps + 1))) r3' (show w.heap.size + 1 + 1 ≠ w.heap.size by omega))
  go_wp2_with (refine Dp.wpList_load_in rfl 35 _ rfl w.heap.size 0 rfl 35 [] _ [] HR.out rfl _ Tryd.underlying35 rfl (by rw [sizeState, HM.out]) ?_)
  intro _
  go_wp2_with (refine Dp.wpList_store_in rfl 35 _ _ rfl (w.heap.size + 1 + 1) 0 rfl (Dp.stCells ⟨Dp.wrap (s.reg i.b + i.n), Dp.wrap (s.steps + 1), s.code, s.over, s.regs.set i.a.toNat (Dp.wrap (s.pc + 1))⟩ root) rfl 35 [] _ [] HR3.out rfl (by rw [HM.out]; rfl) (by rw [sizeState, HM.out]) (Dp.stCells_one _ _) ?_)
  intro w4 r4 z4 k4
  go_wp2
  have r4' : Dp.Row w4 (w.heap.size + 1 + 1) 35 (Dp.stCells ⟨Dp.wrap (s.reg i.b + i.n), Dp.wrap (s.steps + 1), s.code, s.over, s.regs.set i.a.toNat (Dp.wrap (s.pc + 1))⟩ root) := by simpa using r4
  refine bodyPost_ret (Dp.results_row_tmp rfl _ _ (w.heap.size + 1 + 1) 35 _ _ rfl r4' Tryd.underlying35 rfl (by rw [sizeState, HM.out])) rfl ⟨rfl, ?_⟩
  exact (Dp.tail_keeps _ _ _ _ kk (Nat.le_refl _)).next k4 (fun k hk e => by omega)

set_option maxRecDepth 100000 in
set_option maxHeartbeats 1000000 in
theorem refPlainD (s : Dp.Cs) (root : Int) (i : Dp.Ins) (w : World) (hs : s.Ok) (hi : i.Ok) (hop : i.op = 10) (hc0 : s.reg i.c = 0) :
    Calls Tryd.prog 50 #[Dp.stVal s root, Dp.insVal i] w fun e w' => e = .returned (.tuple #[Dp.stVal (Dp.plain s i).1 root, .int .i64 (Dp.plain s i).2]) ∧ Dp.Keeps (fun _ => False) w w' := by
  rw [Dp.plain_div s i hop hc0]
  have hpc := hs.pc
  have hst := hs.steps
  have ha := hs.reg i.a
  have hb := hs.reg i.b
  have hc := hs.reg i.c
  unfold Dp.isWord at hpc hst ha hb hc
  have hcz : (s.reg i.c == 0) = true := by simpa using hc0
  go_enter Tryd.func50, Tryd.ntmps50
  go_wp2_with (refine Dp.wpList_box_row rfl 35 _ rfl (Dp.stCells s root) rfl ?_)
  intro w1 r1 z1 k1
  go_wp2_with (refine Dp.wpList_box_row rfl 98 _ rfl (Dp.insCells i) rfl ?_)
  intro w2 r2 z2 k2
  go_wp2_with (refine Dp.wpList_alloc_row rfl 35 rfl _ zeroState ?_)
  intro w3 r3 z3 k3
  have rs := (r1.keep k2 (fun e => e)).keep k3 (fun e => e)
  have ri := r2.keep k3 (fun e => e)
  have r3' : Dp.Row w3 (w.heap.size + 1 + 1) 35 ([] ++ Dp.stCells ⟨0, 0, 0, false, [0, 0, 0, 0, 0, 0, 0, 0]⟩ 0 ++ []) := by rw [List.append_nil, List.nil_append]; exact r3
  have kk : Dp.Keeps (fun _ => False) w w3 := (k1.trans k2).trans k3
  obtain ⟨c0, c1, c2, c3⟩ := rs.st
  obtain ⟨io, ia, ib, ic, inn⟩ := ri.insC
  have cra := rs.stReg hs.len i.a hi.a
  have crb := rs.stReg hs.len i.b hi.b
  have crc := rs.stReg hs.len i.c hi.c
  have f0 := rs.frozen 0
  have f1 := rs.frozen 1
  have f2 := rs.frozen 2
  have f3 := rs.frozen 3
  have fr := rs.frozen (4 + i.a.toNat)
  have hia := hi.a
  have hib := hi.b
  have hic := hi.c
  have hin := hi.n
  have hl := hs.len
  have hlm : (Dp.stCells s root).length = 13 := Dp.stCells_length _ _ hl
  have HM : Hid ((Dp.stCells s root).length = 13) := hlm
  clear r1 z1 k1 r2 z2 k2 r3 z3 k3 ri hlm
  go_wp2_with fail
  refine (refWrap _ _).mono ?_
  rintro e w' ⟨rfl, rfl⟩
  have HR := Hid.mk_ (Dp.row_nil rs)
  have HR3 := Hid.mk_ r3'
  go_wp2_with (refine Dp.wpList_load_in rfl 35 _ rfl w.heap.size 0 rfl 35 [] _ [] HR.out rfl _ Tryd.underlying35 rfl (by rw [sizeState, HM.out]) ?_)
  intro _
  go_wp2_with (refine Dp.wpList_store_in rfl 35 _ _ rfl (w.heap.size + 1 + 1) 0 rfl (Dp.stCells s root) rfl 35 [] _ [] HR3.out rfl (by rw [HM.out]; rfl) (by rw [sizeState, HM.out]) (Dp.stCells_one _ _) ?_)
  intro w4 r4 z4 k4
  go_wp2
  have r4' : Dp.Row w4 (w.heap.size + 1 + 1) 35 (Dp.stCells s root) := by simpa using r4
  refine bodyPost_ret (Dp.results_row_tmp rfl _ _ (w.heap.size + 1 + 1) 35 _ _ rfl r4' Tryd.underlying35 rfl (by rw [sizeState, HM.out])) rfl ⟨rfl, ?_⟩
  exact kk.next k4 (fun k hk e => by omega)

set_option maxRecDepth 100000 in
set_option maxHeartbeats 1000000 in
theorem refPlainE (s : Dp.Cs) (root : Int) (i : Dp.Ins) (w : World) (hs : s.Ok) (hi : i.Ok) (hop : i.op = 13 ∨ i.op = 14 ∨ 19 ≤ i.op) :
    Calls Tryd.prog 50 #[Dp.stVal s root, Dp.insVal i] w fun e w' => e = .returned (.tuple #[Dp.stVal (Dp.plain s i).1 root, .int .i64 (Dp.plain s i).2]) ∧ Dp.Keeps (fun _ => False) w w' := by
  rw [Dp.plain_err s i hop]
  have hpc := hs.pc
  have hst := hs.steps
  have ha := hs.reg i.a
  have hb := hs.reg i.b
  have hc := hs.reg i.c
  unfold Dp.isWord at hpc hst ha hb hc
  have n0 : (i.op == 0) = false := by rw [beq_eq_false_iff_ne]; omega
  have n1 : (i.op == 1) = false := by rw [beq_eq_false_iff_ne]; omega
  have n2 : (i.op == 2) = false := by rw [beq_eq_false_iff_ne]; omega
  have n3 : (i.op == 3) = false := by rw [beq_eq_false_iff_ne]; omega
  have n4 : (i.op == 4) = false := by rw [beq_eq_false_iff_ne]; omega
  have n5 : (i.op == 5) = false := by rw [beq_eq_false_iff_ne]; omega
  have n6 : (i.op == 6) = false := by rw [beq_eq_false_iff_ne]; omega
  have n7 : (i.op == 7) = false := by rw [beq_eq_false_iff_ne]; omega
  have n8 : (i.op == 8) = false := by rw [beq_eq_false_iff_ne]; omega
  have n9 : (i.op == 9) = false := by rw [beq_eq_false_iff_ne]; omega
  have n10 : (i.op == 10) = false := by rw [beq_eq_false_iff_ne]; omega
  have n11 : (i.op == 11) = false := by rw [beq_eq_false_iff_ne]; omega
  have n12 : (i.op == 12) = false := by rw [beq_eq_false_iff_ne]; omega
  have n15 : (i.op == 15) = false := by rw [beq_eq_false_iff_ne]; omega
  have n16 : (i.op == 16) = false := by rw [beq_eq_false_iff_ne]; omega
  have n17 : (i.op == 17) = false := by rw [beq_eq_false_iff_ne]; omega
  have n18 : (i.op == 18) = false := by rw [beq_eq_false_iff_ne]; omega
  clear hop
  go_enter Tryd.func50, Tryd.ntmps50
  go_wp2_with (refine Dp.wpList_box_row rfl 35 _ rfl (Dp.stCells s root) rfl ?_)
  intro w1 r1 z1 k1
  go_wp2_with (refine Dp.wpList_box_row rfl 98 _ rfl (Dp.insCells i) rfl ?_)
  intro w2 r2 z2 k2
  go_wp2_with (refine Dp.wpList_alloc_row rfl 35 rfl _ zeroState ?_)
  intro w3 r3 z3 k3
  have rs := (r1.keep k2 (fun e => e)).keep k3 (fun e => e)
  have ri := r2.keep k3 (fun e => e)
  have r3' : Dp.Row w3 (w.heap.size + 1 + 1) 35 ([] ++ Dp.stCells ⟨0, 0, 0, false, [0, 0, 0, 0, 0, 0, 0, 0]⟩ 0 ++ []) := by rw [List.append_nil, List.nil_append]; exact r3
  have kk : Dp.Keeps (fun _ => False) w w3 := (k1.trans k2).trans k3
  obtain ⟨c0, c1, c2, c3⟩ := rs.st
  obtain ⟨io, ia, ib, ic, inn⟩ := ri.insC
  have cra := rs.stReg hs.len i.a hi.a
  have crb := rs.stReg hs.len i.b hi.b
  have crc := rs.stReg hs.len i.c hi.c
  have f0 := rs.frozen 0
  have f1 := rs.frozen 1
  have f2 := rs.frozen 2
  have f3 := rs.frozen 3
  have fr := rs.frozen (4 + i.a.toNat)
  have hia := hi.a
  have hib := hi.b
  have hic := hi.c
  have hin := hi.n
  have hl := hs.len
  have hlm : (Dp.stCells s root).length = 13 := Dp.stCells_length _ _ hl
  have HM : Hid ((Dp.stCells s root).length = 13) := hlm
  clear r1 z1 k1 r2 z2 k2 r3 z3 k3 ri hlm
  go_wp2_with fail
  refine (refWrap _ _).mono ?_
  rintro e w' ⟨rfl, rfl⟩
  have HR := Hid.mk_ (Dp.row_nil rs)
  have HR3 := Hid.mk_ r3'
  go_wp2_with (refine Dp.wpList_load_in rfl 35 _ rfl w.heap.size 0 rfl 35 [] _ [] HR.out rfl _ Tryd.underlying35 rfl (by rw [sizeState, HM.out]) ?_)
  intro _
  go_wp2_with (refine Dp.wpList_store_in rfl 35 _ _ rfl (w.heap.size + 1 + 1) 0 rfl (Dp.stCells s root) rfl 35 [] _ [] HR3.out rfl (by rw [HM.out]; rfl) (by rw [sizeState, HM.out]) (Dp.stCells_one _ _) ?_)
  intro w4 r4 z4 k4
  go_wp2
  have r4' : Dp.Row w4 (w.heap.size + 1 + 1) 35 (Dp.stCells s root) := by simpa using r4
  refine bodyPost_ret (Dp.results_row_tmp rfl _ _ (w.heap.size + 1 + 1) 35 _ _ rfl r4' Tryd.underlying35 rfl (by rw [sizeState, HM.out])) rfl ⟨rfl, ?_⟩
  exact kk.next k4 (fun k hk e => by omega)

end Go.Proofs.YtdipojfngdceoaaDoor

/- The document's answer: every step without a cell or a source comes to the plain one. -/
namespace Go.Proofs.YtdipojfngdceoaaDoor

theorem refPlain (s : Dp.Cs) (root : Int) (i : Dp.Ins) (w : World) (hs : s.Ok) (hi : i.Ok) :
    Calls Tryd.prog 50 #[Dp.stVal s root, Dp.insVal i] w fun e w' => e = .returned (.tuple #[Dp.stVal (Dp.plain s i).1 root, .int .i64 (Dp.plain s i).2]) ∧ Dp.Keeps (fun _ => False) w w' := by
  have ho := hi.op
  by_cases hE : i.op = 13 ∨ i.op = 14 ∨ 19 ≤ i.op
  · exact refPlainE s root i w hs hi hE
  rcases (show i.op = 0 ∨ i.op = 1 ∨ i.op = 2 ∨ i.op = 3 ∨ i.op = 4 ∨ i.op = 5 ∨ i.op = 6 ∨ i.op = 7 ∨ i.op = 8 ∨ i.op = 9 ∨ i.op = 10 ∨ i.op = 11 ∨ i.op = 12 ∨ i.op = 15 ∨ i.op = 16 ∨ i.op = 17 ∨ i.op = 18 by omega) with h | h | h | h | h | h | h | h | h | h | h | h | h | h | h | h | h
  · exact refPlain0 s root i w hs hi h
  · exact refPlain1 s root i w hs hi h
  · exact refPlain2 s root i w hs hi h
  · exact refPlain3 s root i w hs hi h
  · exact refPlain4 s root i w hs hi h
  · exact refPlain5 s root i w hs hi h
  · exact refPlain6 s root i w hs hi h
  · exact refPlain7 s root i w hs hi h
  · exact refPlain8 s root i w hs hi h
  · exact refPlain9 s root i w hs hi h
  · by_cases hc : s.reg i.c = 0
    · exact refPlainD s root i w hs hi h hc
    · exact refPlain10 s root i w hs hi h hc
  · exact refPlain11 s root i w hs hi h
  · exact refPlain12 s root i w hs hi h
  · cases ht : (s.reg i.a == s.reg i.b) with
    | true => exact refPlain15y s root i w hs hi h ht
    | false => exact refPlain15n s root i w hs hi h ht
  · cases ht : (s.reg i.a != s.reg i.b) with
    | true => exact refPlain16y s root i w hs hi h ht
    | false => exact refPlain16n s root i w hs hi h ht
  · cases ht : decide (s.reg i.a < s.reg i.b) with
    | true => exact refPlain17y s root i w hs hi h ht
    | false => exact refPlain17n s root i w hs hi h ht
  · exact refPlain18 s root i w hs hi h

end Go.Proofs.YtdipojfngdceoaaDoor

/- What the walks of the document's Step and of others share: nothing of its machine in memory. -/
namespace Go.Proofs.YtdipojfngdceoaaDoor
open Go.RowKit
attribute [local go_sem ↓] Go.wp_at_zero Go.wp_at_succ

theorem Dp.Keeps.cells {w w' : World} (k : Dp.Keeps (fun _ => False) w w') : (∀ b o, b < w.heap.size → w'.cell? ⟨b, o, none⟩ = w.cell? ⟨b, o, none⟩) ∧ (∀ b o, b < w.heap.size → w'.frozen? ⟨b, o, none⟩ = w.frozen? ⟨b, o, none⟩) :=
  ⟨fun b _ h => World.cell?_of_block (k.block b h (fun e => e)), fun b _ h => World.frozen?_of_block (k.block b h (fun e => e))⟩
theorem Dp.Keeps.set5 {S : Nat → Prop} {a w : World} (h : Dp.Keeps S a w) {g : Nat} (hg : a.heap.size ≤ g) (v0 v1 v2 v3 v4 : Value) : Dp.Keeps S a (((((w.setCell ⟨g, 0, none⟩ v0).setCell ⟨g, 1, none⟩ v1).setCell ⟨g, 2, none⟩ v2).setCell ⟨g, 3, none⟩ v3).setCell ⟨g, 4, none⟩ v4) :=
  ((((h.setCell (.inl hg) _).setCell (.inl hg) _).setCell (.inl hg) _).setCell (.inl hg) _).setCell (.inl hg) _
theorem refDecodeX (n : Int) (i : Dp.Ins) (w : World) (h : Dp.isWord n) (hi : Dp.decode n = i) :
    Calls Tryd.prog 45 #[.int .i64 n] w fun e w' => e = .returned (.agg #[.int .i64 i.op, .int .i64 i.a, .int .i64 i.b, .int .i64 i.c, .int .i64 i.n]) ∧ Dp.Keeps (fun _ => False) w w' := by
  subst hi; exact refDecode n w h
theorem refMovedX (s : Dp.Cs) (root : Int) (i : Dp.Ins) (v : Int) (load : Bool) (w : World) (hs : s.Ok) (hi : i.Ok) :
    Calls Tryd.prog 48 #[.agg (Dp.stCells s root).toArray, .agg #[.int .i64 i.op, .int .i64 i.a, .int .i64 i.b, .int .i64 i.c, .int .i64 i.n], .int .i64 v, .bool load] w fun e w' => e = .returned (.agg (Dp.stCells (Dp.moved s i v load) root).toArray) ∧ Dp.Keeps (fun _ => False) w w' :=
  refMoved s root i v load w hs hi
theorem refPlainX (s : Dp.Cs) (root : Int) (i : Dp.Ins) (w : World) (hs : s.Ok) (hi : i.Ok) :
    Calls Tryd.prog 50 #[.agg (Dp.stCells s root).toArray, .agg #[.int .i64 i.op, .int .i64 i.a, .int .i64 i.b, .int .i64 i.c, .int .i64 i.n]] w fun e w' => e = .returned (.tuple #[.agg (Dp.stCells (Dp.plain s i).1 root).toArray, .int .i64 (Dp.plain s i).2]) ∧ Dp.Keeps (fun _ => False) w w' :=
  refPlain s root i w hs hi
namespace Dp
theorem moved_ok {s : Cs} (h : s.Ok) (i : Ins) (v : Int) (load : Bool) (hv : isWord v) : (moved s i v load).Ok := by
  refine ⟨wrap_word _, wrap_word _, h.code, ?_, ?_⟩
  · unfold moved; cases load <;> simp [h.len]
  · cases load with
    | true => exact (h.put i.a v hv).regs
    | false => exact h.regs
theorem bits_word (op x y : Int) (hx : isWord x) (hy : isWord y) (hop : op = 4 ∨ op = 5 ∨ op = 6) : isWord (bits op x y) := by
  have h := bitsTo_all op x y hx hy hop
  have h2 := bitsTo_lt op x.toNat y.toNat 32
  rw [← h]
  unfold isWord
  omega
theorem alu_word {s : Cs} (h : s.Ok) (i : Ins) : isWord (aluOf s i) := by
  have hb := h.reg i.b
  have hc := h.reg i.c
  have ha := h.reg i.a
  unfold aluOf
  simp only
  split; exact wrap_word _
  split; exact wrap_word _
  split; exact wrap_word _
  split
  · rename_i hop; exact bits_word _ _ _ hb hc hop
  split
  · have := shlTo_word (s.reg i.b) (s.reg i.c % 32).toNat
    unfold shlTo at this; unfold shl; simpa using this
  split
  · have := shrTo_word (s.reg i.b) hb (s.reg i.c % 32).toNat
    unfold shrTo at this; unfold shr; simpa using this
  split
  · unfold one isWord; split <;> omega
  split
  · unfold isWord at *
    refine ⟨Int.ediv_nonneg hb.1 hc.1, ?_⟩
    have := Int.ediv_le_self (s.reg i.c) hb.1
    omega
  split; exact wrap_word _
  split; exact wrap_word _
  split; exact wrap_word _
  exact ha
theorem next_word {s : Cs} (h : s.Ok) (i : Ins) : isWord (nextOf s i) := by
  unfold nextOf
  simp only
  split; exact h.pc
  split; exact wrap_word _
  split; exact wrap_word _
  split; exact wrap_word _
  split; exact wrap_word _
  exact wrap_word _
theorem plain_same (s : Cs) (i : Ins) (h : (plain s i).2 ≠ 0) : (plain s i).1 = s := by
  unfold plain at h ⊢
  split
  · rfl
  split
  · rfl
  rename_i h1 h2
  rw [if_neg h1, if_neg h2] at h
  exact absurd rfl h
theorem plain_ok {s : Cs} (h : s.Ok) (i : Ins) : ((plain s i).1).Ok := by
  unfold plain
  split
  · exact h
  split
  · exact h
  refine ⟨next_word h i, wrap_word _, ?_, by simp [h.len], (h.put i.a _ (alu_word h i)).regs⟩
  show isWord (if i.op = 0 then s.reg i.a else s.code)
  split
  · exact h.reg _
  · exact h.code
end Dp
/-- Loading and storing the whole state. -/
theorem runLoadSt {w : World} {p : Nat} {e : TypeId} {s : Dp.Cs} {r : Int} {post : List Value} (h : Dp.Row w p e (Dp.stCells s r ++ post)) (hl : s.regs.length = 8) : (Instr.loadAt 35 (.pointer (some ⟨p, 0, none⟩))).run Tryd.prog w = .ok (.agg (Dp.stCells s r).toArray) w :=
  run_loadAt_mid w p 0 35 _ _ (Dp.Row.range (pre := []) h) Tryd.underlying35 rfl (by rw [sizeState, Dp.stCells_length _ _ hl])
theorem runStoreSt {w : World} {p : Nat} {e : TypeId} {cs : List Value} (h : Dp.Row w p e cs) (hc : 13 ≤ cs.length) (s : Dp.Cs) (r : Int) (hl : s.regs.length = 8) : (Instr.storeAt 35 (.pointer (some ⟨p, 0, none⟩)) (.agg (Dp.stCells s r).toArray)).run Tryd.prog w = .ok () (w.setCells p 0 (Dp.stCells s r)) := by
  have := run_storeAt_mid (P := Tryd.prog) w p 0 35 (Dp.stCells s r).toArray (h.there 0 _ (by simp [Dp.stCells_length s r hl]; omega)) (by rw [sizeState]; simp [Dp.stCells_length s r hl]) (all_oneCell_toArray (Dp.stCells_one _ _))
  simpa using this
namespace Dp
theorem run_load_op {P : Program} {oi : Oper} {a : Act} {ty : TypeId} {x : Operand} {ad : Addr} {v : Value} {wx : World} (ho : oi.op = .load ty x) (hx : a.eval x = .pointer (some ad)) (h : (Instr.loadAt ty (.pointer (some ad))).run P wx = .ok v wx) : (execOp a.eval oi).run P wx = .ok (.value v) wx := by
  simp [execOp, ho, hx, h, Result.andThen]
end Dp
theorem refToldI (l : List UInt8) (a : Int) (w : World) (h : Dp.isWord a) (hl : l.length ≤ 16777216) :
    Calls Tryd.prog 49 #[.string (Dp.str l), .int .i64 a] w fun e w' => e = .returned (.int .i64 (Dp.told l a)) ∧ w' = w := by
  unfold Dp.isWord at h
  obtain ⟨k, rfl⟩ := Int.eq_ofNat_of_zero_le h.1
  exact refTold l k w (by omega) hl
theorem mixedZ : Tryd.prog.follows .mixedOrders = true := by kernel_rfl
theorem zeroIns : (Tryd.prog.info? 98).map (fun i => i.zero) = some (some (.agg (Dp.insCells ⟨0, 0, 0, 0, 0⟩).toArray)) := by kernel_rfl

end Go.Proofs.YtdipojfngdceoaaDoor

/- The document's answer: a label is read back. -/
namespace Go.Proofs.YtdipojfngdceoaaDoor
open Go.RowKit

namespace Dp
def unreg (l : List UInt8) (i : Nat) : Int := numTo l (13 + 4 * i) 4
/-- The state that a label tells. -/
def unlab (l : List UInt8) : Cs := ⟨numTo l 0 4, numTo l 4 4, numTo l 8 4, ((l.getD 12 0).toNat : Int) == 1, (List.range 8).map (unreg l)⟩
def unroot (l : List UInt8) : Int := numTo l 45 2
def unregs (l : List UInt8) (k : Nat) : List Int := (List.range k).map (unreg l) ++ List.replicate (8 - k) 0
theorem unregs_length (l : List UInt8) (k : Nat) (hk : k ≤ 8) : (unregs l k).length = 8 := by unfold unregs; simp; omega
theorem unregs_put (l : List UInt8) (k : Nat) (hk : k < 8) : (unregs l k).set k (unreg l k) = unregs l (k + 1) := by
  unfold unregs
  rcases (by omega : k = 0 ∨ k = 1 ∨ k = 2 ∨ k = 3 ∨ k = 4 ∨ k = 5 ∨ k = 6 ∨ k = 7) with rfl | rfl | rfl | rfl | rfl | rfl | rfl | rfl <;> rfl
theorem unregs_all (l : List UInt8) : unregs l 8 = (List.range 8).map (unreg l) := by unfold unregs; simp
theorem unlab_ok (l : List UInt8) : (unlab l).Ok := by
  refine ⟨numTo_bd l _ _ (Nat.le_refl _), numTo_bd l _ _ (Nat.le_refl _), numTo_bd l _ _ (Nat.le_refl _), by simp [unlab], ?_⟩
  intro x hx
  simp only [unlab, List.mem_map] at hx
  obtain ⟨i, _, rfl⟩ := hx
  exact numTo_bd l _ _ (Nat.le_refl _)
theorem Keeps.set13 {S : Nat → Prop} {a w : World} (h : Dp.Keeps S a w) {g : Nat} (hg : a.heap.size ≤ g) (v0 v1 v2 v3 v4 v5 v6 v7 v8 v9 v10 v11 v12 : Value) : Dp.Keeps S a (((((((((((((w.setCell ⟨g, 0, none⟩ v0).setCell ⟨g, 1, none⟩ v1).setCell ⟨g, 2, none⟩ v2).setCell ⟨g, 3, none⟩ v3).setCell ⟨g, 4, none⟩ v4).setCell ⟨g, 5, none⟩ v5).setCell ⟨g, 6, none⟩ v6).setCell ⟨g, 7, none⟩ v7).setCell ⟨g, 8, none⟩ v8).setCell ⟨g, 9, none⟩ v9).setCell ⟨g, 10, none⟩ v10).setCell ⟨g, 11, none⟩ v11).setCell ⟨g, 12, none⟩ v12) :=
  ((((((((((((h.setCell (.inl hg) _).setCell (.inl hg) _).setCell (.inl hg) _).setCell (.inl hg) _).setCell (.inl hg) _).setCell (.inl hg) _).setCell (.inl hg) _).setCell (.inl hg) _).setCell (.inl hg) _).setCell (.inl hg) _).setCell (.inl hg) _).setCell (.inl hg) _).setCell (.inl hg) _
end Dp

namespace Dp
theorem Row.set13 {w : World} {g : Nat} {e : TypeId} {u0 u1 u2 u3 u4 u5 u6 u7 u8 u9 u10 u11 u12 : Value} (h : Row w g e [u0, u1, u2, u3, u4, u5, u6, u7, u8, u9, u10, u11, u12]) (v0 v1 v2 v3 v4 v5 v6 v7 v8 v9 v10 v11 v12 : Value) : Row (((((((((((((w.setCell ⟨g, 0, none⟩ v0).setCell ⟨g, 1, none⟩ v1).setCell ⟨g, 2, none⟩ v2).setCell ⟨g, 3, none⟩ v3).setCell ⟨g, 4, none⟩ v4).setCell ⟨g, 5, none⟩ v5).setCell ⟨g, 6, none⟩ v6).setCell ⟨g, 7, none⟩ v7).setCell ⟨g, 8, none⟩ v8).setCell ⟨g, 9, none⟩ v9).setCell ⟨g, 10, none⟩ v10).setCell ⟨g, 11, none⟩ v11).setCell ⟨g, 12, none⟩ v12) g e [v0, v1, v2, v3, v4, v5, v6, v7, v8, v9, v10, v11, v12] :=
  ((((((((((((h.set 0 v0).set 1 v1).set 2 v2).set 3 v3).set 4 v4).set 5 v5).set 6 v6).set 7 v7).set 8 v8).set 9 v9).set 10 v10).set 11 v11).set 12 v12
theorem Row.setOther13 {w : World} {g b : Nat} {e : TypeId} {cs : List Value} (h : Row w b e cs) (hb : b ≠ g) (v0 v1 v2 v3 v4 v5 v6 v7 v8 v9 v10 v11 v12 : Value) : Row (((((((((((((w.setCell ⟨g, 0, none⟩ v0).setCell ⟨g, 1, none⟩ v1).setCell ⟨g, 2, none⟩ v2).setCell ⟨g, 3, none⟩ v3).setCell ⟨g, 4, none⟩ v4).setCell ⟨g, 5, none⟩ v5).setCell ⟨g, 6, none⟩ v6).setCell ⟨g, 7, none⟩ v7).setCell ⟨g, 8, none⟩ v8).setCell ⟨g, 9, none⟩ v9).setCell ⟨g, 10, none⟩ v10).setCell ⟨g, 11, none⟩ v11).setCell ⟨g, 12, none⟩ v12) b e cs :=
  ((((((((((((h.setOther _ _ hb).setOther _ _ hb).setOther _ _ hb).setOther _ _ hb).setOther _ _ hb).setOther _ _ hb).setOther _ _ hb).setOther _ _ hb).setOther _ _ hb).setOther _ _ hb).setOther _ _ hb).setOther _ _ hb).setOther _ _ hb
def zeroSt : List Value := stCells ⟨0, 0, 0, false, [0, 0, 0, 0, 0, 0, 0, 0]⟩ 0
end Dp

set_option maxRecDepth 100000 in
set_option maxHeartbeats 4000000 in
theorem refUnlabel (l : List UInt8) (w : World) (hl : l.length = 47) :
    Calls Tryd.prog 43 #[.string (Dp.str l)] w fun e w' => e = .returned (.tuple #[Dp.stVal (Dp.unlab l) (Dp.unroot l), .bool (decide (((l.getD 12 0).toNat : Int) < 2))]) ∧ Dp.Keeps (fun _ => False) w w' := by
  have hsz := Dp.str_size l
  rw [hl] at hsz
  have HN0 : Hid (∀ wx : World, Calls Tryd.prog 46 #[.string (Dp.str l), .int .i64 0, .int .i64 4] wx fun e w' => e = .returned (.int .i64 (Dp.numTo l 0 4)) ∧ w' = wx) := fun wx => refNumber l 0 4 wx (by omega) (by omega) (by omega)
  have HN1 : Hid (∀ wx : World, Calls Tryd.prog 46 #[.string (Dp.str l), .int .i64 4, .int .i64 4] wx fun e w' => e = .returned (.int .i64 (Dp.numTo l 4 4)) ∧ w' = wx) := fun wx => refNumber l 4 4 wx (by omega) (by omega) (by omega)
  have HN2 : Hid (∀ wx : World, Calls Tryd.prog 46 #[.string (Dp.str l), .int .i64 8, .int .i64 4] wx fun e w' => e = .returned (.int .i64 (Dp.numTo l 8 4)) ∧ w' = wx) := fun wx => refNumber l 8 4 wx (by omega) (by omega) (by omega)
  have HN3 : Hid (∀ wx : World, Calls Tryd.prog 46 #[.string (Dp.str l), .int .i64 45, .int .i64 2] wx fun e w' => e = .returned (.int .i64 (Dp.numTo l 45 2)) ∧ w' = wx) := fun wx => refNumber l 45 2 wx (by omega) (by omega) (by omega)
  have HNK : Hid (∀ (k : Nat) (a : Int) (wx : World), k < 8 → a = ((13 + 4 * k : Nat) : Int) → Calls Tryd.prog 46 #[.string (Dp.str l), .int .i64 a, .int .i64 4] wx fun e w' => e = .returned (.int .i64 (Dp.unreg l k)) ∧ w' = wx) := by
    rintro k a wx hk rfl
    exact refNumber l (13 + 4 * k) 4 wx (by omega) (by omega) (by omega)
  have HU : Hid (Dp.unlab l = ⟨Dp.numTo l 0 4, Dp.numTo l 4 4, Dp.numTo l 8 4, ((l.getD 12 0).toNat : Int) == 1, Dp.unregs l 8⟩ ∧ Dp.unroot l = Dp.numTo l 45 2) := by
    unfold Hid Dp.unlab Dp.unroot; rw [Dp.unregs_all]; exact ⟨rfl, rfl⟩
  have HG : Hid ((Dp.str l)[12]'(by omega) = l.getD 12 0) := Dp.str_get l 12 (by omega)
  generalize hB : l.getD 12 0 = B at *
  have hg := HG.out
  have hbyte : B.toNat < 256 := B.toNat_lt
  clear hB
  have HB := Hid.mk_ hg
  rw [HU.out.1, HU.out.2]
  generalize Dp.numTo l 0 4 = a0 at *
  generalize Dp.numTo l 4 4 = a1 at *
  generalize Dp.numTo l 8 4 = a2 at *
  generalize Dp.numTo l 45 2 = a3 at *
  go_enter Tryd.func43, Tryd.ntmps43
  go_wp2_with (refine Dp.wpList_alloc_row rfl 35 rfl _ zeroState ?_)
  intro w1 r1 z1 k1
  go_upto_region 1 with (fail)
  go_cut [4] (fun t wx => t = .pointer (some ⟨w.heap.size + 1, 0, none⟩) ∧ Dp.Row wx (w.heap.size + 1) 35 (Dp.stCells ⟨a0, a1, a2, ((B.toNat : Int) == 1), Dp.unregs l 0⟩ a3) ∧ Dp.Row wx w.heap.size 35 Dp.zeroSt ∧ Dp.Keeps (fun _ => False) w wx)
  case first =>
    refine Dp.wp_region_L (fun _ => True) 14 mixedP ?_
    refine' Dp.wpAnyL_take 0 rfl (by kernel_rfl) (fun _ _ _ h => h) (by rfl) ?hy0 trivial ?rest0
    case hy0 => intro wx hSx; go_simp; try with_reducible rfl
    simp only [Act.put, List.getElem_toArray, List.getElem_cons_zero, List.setIfInBounds_toArray, List.set_cons_zero, List.set_cons_succ]
    refine' Dp.wpAnyL_tell 1 rfl (by kernel_rfl) (fun _ _ _ h => h) (by rfl) 46 #[.string (Dp.str l), .int .i64 0, .int .i64 4] ?he1 (fun wx _ => HN0.out wx) trivial ?rest1
    case he1 => intro wx hSx; go_simp; try with_reducible rfl
    simp only [Act.put, List.getElem_toArray, List.getElem_cons_zero, List.getElem_cons_succ, List.setIfInBounds_toArray, List.set_cons_zero, List.set_cons_succ]
    refine' Dp.wpAnyL_take 2 rfl (by kernel_rfl) (fun _ _ _ h => h) (by rfl) ?hy2 trivial ?rest2
    case hy2 => intro wx hSx; go_simp; try with_reducible rfl
    simp only [Act.put, List.getElem_toArray, List.getElem_cons_zero, List.getElem_cons_succ, List.setIfInBounds_toArray, List.set_cons_zero, List.set_cons_succ]
    refine' Dp.wpAnyL_tell 3 rfl (by kernel_rfl) (fun _ _ _ h => h) (by rfl) 46 #[.string (Dp.str l), .int .i64 4, .int .i64 4] ?he3 (fun wx _ => HN1.out wx) trivial ?rest3
    case he3 => intro wx hSx; go_simp; try with_reducible rfl
    simp only [Act.put, List.getElem_toArray, List.getElem_cons_zero, List.getElem_cons_succ, List.setIfInBounds_toArray, List.set_cons_zero, List.set_cons_succ]
    refine' Dp.wpAnyL_take 4 rfl (by kernel_rfl) (fun _ _ _ h => h) (by rfl) ?hy4 trivial ?rest4
    case hy4 => intro wx hSx; go_simp; try with_reducible rfl
    simp only [Act.put, List.getElem_toArray, List.getElem_cons_zero, List.getElem_cons_succ, List.setIfInBounds_toArray, List.set_cons_zero, List.set_cons_succ]
    refine' Dp.wpAnyL_tell 5 rfl (by kernel_rfl) (fun _ _ _ h => h) (by rfl) 46 #[.string (Dp.str l), .int .i64 8, .int .i64 4] ?he5 (fun wx _ => HN2.out wx) trivial ?rest5
    case he5 => intro wx hSx; go_simp; try with_reducible rfl
    simp only [Act.put, List.getElem_toArray, List.getElem_cons_zero, List.getElem_cons_succ, List.setIfInBounds_toArray, List.set_cons_zero, List.set_cons_succ]
    refine' Dp.wpAnyL_take 6 rfl (by kernel_rfl) (fun _ _ _ h => h) (by rfl) ?hy6 trivial ?rest6
    case hy6 => intro wx hSx; go_simp; try with_reducible rfl
    simp only [Act.put, List.getElem_toArray, List.getElem_cons_zero, List.getElem_cons_succ, List.setIfInBounds_toArray, List.set_cons_zero, List.set_cons_succ]
    refine' Dp.wpAnyL_take (v := .int .u8 B.toNat) 7 rfl (by kernel_rfl) (fun _ _ _ h => h) (by rfl) ?hy7 trivial ?rest7
    case hy7 => intro wx hSx; go_simp; try with_reducible rfl
    simp only [Act.put, List.getElem_toArray, List.getElem_cons_zero, List.getElem_cons_succ, List.setIfInBounds_toArray, List.set_cons_zero, List.set_cons_succ]
    refine' Dp.wpAnyL_take (v := .bool ((B.toNat : Int) == 1)) 8 rfl (by kernel_rfl) (fun _ _ _ h => h) (by rfl) ?hy8 trivial ?rest8
    case hy8 => intro wx hSx; go_simp; try with_reducible rfl
    simp only [Act.put, List.getElem_toArray, List.getElem_cons_zero, List.getElem_cons_succ, List.setIfInBounds_toArray, List.set_cons_zero, List.set_cons_succ]
    refine' Dp.wpAnyL_take 9 rfl (by kernel_rfl) (fun _ _ _ h => h) (by rfl) ?hy9 trivial ?rest9
    case hy9 => intro wx hSx; go_simp; try with_reducible rfl
    simp only [Act.put, List.getElem_toArray, List.getElem_cons_zero, List.getElem_cons_succ, List.setIfInBounds_toArray, List.set_cons_zero, List.set_cons_succ]
    refine' Dp.wpAnyL_tell 10 rfl (by kernel_rfl) (fun _ _ _ h => h) (by rfl) 46 #[.string (Dp.str l), .int .i64 45, .int .i64 2] ?he10 (fun wx _ => HN3.out wx) trivial ?rest10
    case he10 => intro wx hSx; go_simp; try with_reducible rfl
    simp only [Act.put, List.getElem_toArray, List.getElem_cons_zero, List.getElem_cons_succ, List.setIfInBounds_toArray, List.set_cons_zero, List.set_cons_succ]
    refine' Dp.wpAnyL_take (v := Dp.stVal ⟨a0, a1, a2, ((B.toNat : Int) == 1), [0, 0, 0, 0, 0, 0, 0, 0]⟩ a3) 11 rfl (by kernel_rfl) (fun _ _ _ h => h) (by rfl) ?hy11 trivial ?rest11
    case hy11 => intro wx hSx; go_simp; rfl
    simp only [Act.put, List.getElem_toArray, List.getElem_cons_zero, List.getElem_cons_succ, List.setIfInBounds_toArray, List.set_cons_zero, List.set_cons_succ]
    refine Dp.wpAnyL_true _ _ _ _ ?_
    refine Dp.wpAny_tail 12 rfl (by kernel_rfl) ?_
    simp only [List.drop_succ_cons, List.drop_zero]
    have e1 : w1.drew.heap.size = w.heap.size + 1 := z1
    have HR0 := Hid.mk_ r1
    have HK0 := Hid.mk_ k1
    clear r1 k1
    refine Dp.wpList_alloc_row rfl 35 rfl _ zeroState ?_
    intro w2 r2 z2 k2
    rw [e1] at r2 z2 ⊢
    have HR2 := Hid.mk_ (Dp.row_nil r2)
    go_wp2_with (refine Dp.wpList_store_in rfl 35 _ _ rfl (w.heap.size + 1) 0 rfl (Dp.stCells ⟨a0, a1, a2, ((B.toNat : Int) == 1), [0, 0, 0, 0, 0, 0, 0, 0]⟩ a3) rfl 35 [] _ [] HR2.out rfl rfl (by rw [sizeState]; rfl) (Dp.stCells_one _ _) ?_)
    intro w3 r3 z3 k3
    have HR3 : Hid (Dp.Row w3 (w.heap.size + 1) 35 (Dp.stCells ⟨a0, a1, a2, ((B.toNat : Int) == 1), Dp.unregs l 0⟩ a3)) := by
      unfold Hid; rw [show Dp.unregs l 0 = [0, 0, 0, 0, 0, 0, 0, 0] from rfl]; simpa using r3
    have k23 : Dp.Keeps (fun _ => False) w1 w3 := ((Dp.Keeps.refl _ w1).drew.trans k2).next k3 (fun q hq e => by omega)
    have HR03 := Hid.mk_ (HR0.out.keep k23 (fun e => e))
    have HK3 := Hid.mk_ (HK0.out.trans k23)
    clear r2 r3 HR2 k2 k3 z2 z3 k23
    go_wp2
    go_meet
    case rel => exact ⟨rfl, HR3.out, HR03.out, HK3.out⟩
  case rest =>
    obtain ⟨rfl, rg, r0, kk⟩ := hcut
    clear r1 k1 hg HG HN0 HN1 HN2 HN3
    go_wp2
    go_loopw [5] (fun i wx => ∃ k : Nat, k ≤ 8 ∧ i = .int .i64 k ∧ Dp.Row wx (w.heap.size + 1) 35 (Dp.stCells ⟨a0, a1, a2, ((B.toNat : Int) == 1), Dp.unregs l k⟩ a3) ∧ Dp.Row wx w.heap.size 35 Dp.zeroSt ∧ Dp.Keeps (fun _ => False) w wx) (fun i _ => 8 - (intOf i).toNat)
    case atStart => exact ⟨0, Nat.zero_le _, rfl, rg, r0, kk⟩
    case round =>
      obtain ⟨k, hk, rfl, rk, rz, kz⟩ := hrel
      clear rg r0 kk
      by_cases hlt : k < 8
      · have ck := rk.stReg (Dp.unregs_length l k hk) (k : Int) (by omega)
        rw [Int.toNat_natCast] at ck
        have fr := rk.frozen (4 + k)
        have HP := Dp.stCells_put ⟨a0, a1, a2, ((B.toNat : Int) == 1), Dp.unregs l k⟩ a3 (Dp.unregs_length l k hk) (k : Int) (Dp.unreg l k) (by omega)
        rw [Int.toNat_natCast] at HP
        have HRK : Hid (Dp.Row (wr.setCell ⟨w.heap.size + 1, 4 + k, none⟩ (.int .i64 (Dp.unreg l k))) (w.heap.size + 1) 35 (Dp.stCells ⟨a0, a1, a2, ((B.toNat : Int) == 1), Dp.unregs l (k + 1)⟩ a3)) := by
          have h := rk.set (4 + k) (.int .i64 (Dp.unreg l k))
          rw [HP] at h
          have e : (⟨a0, a1, a2, ((B.toNat : Int) == 1), Dp.unregs l k⟩ : Dp.Cs).put (k : Int) (Dp.unreg l k) = ⟨a0, a1, a2, ((B.toNat : Int) == 1), Dp.unregs l (k + 1)⟩ := by
            unfold Dp.Cs.put; rw [Int.toNat_natCast, Dp.unregs_put l k hlt]
          rw [e] at h
          exact h
        have HRZ : Hid (Dp.Row (wr.setCell ⟨w.heap.size + 1, 4 + k, none⟩ (.int .i64 (Dp.unreg l k))) w.heap.size 35 Dp.zeroSt) := rz.setOther _ _ (by simp)
        have HKZ : Hid (Dp.Keeps (fun _ => False) w (wr.setCell ⟨w.heap.size + 1, 4 + k, none⟩ (.int .i64 (Dp.unreg l k)))) := kz.setCell (.inl (by simp)) _
        clear HP rk rz kz
        go_wp2_with fail
        refine (HNK.out k _ _ hlt (by omega)).mono ?_
        rintro e w3 ⟨rfl, rfl⟩
        go_wp2
        go_roundw
        case rel => exact ⟨k + 1, by omega, by go_num, HRK.out, HRZ.out, HKZ.out⟩
        case measure => simp [intOf]; omega
      · obtain rfl : k = 8 := by omega
        have h8 : (Dp.unregs l 8).length = 8 := Dp.unregs_length l 8 hk
        obtain ⟨x0, x1, x2, x3, x4, x5, x6, x7, hx⟩ : ∃ x0 x1 x2 x3 x4 x5 x6 x7, Dp.unregs l 8 = [x0, x1, x2, x3, x4, x5, x6, x7] := ⟨_, _, _, _, _, _, _, _, rfl⟩
        have hrk : Dp.Row wr (w.heap.size + 1) 35 [.int .i64 a0, .int .i64 a1, .int .i64 a2, .bool ((B.toNat : Int) == 1), .int .i64 x0, .int .i64 x1, .int .i64 x2, .int .i64 x3, .int .i64 x4, .int .i64 x5, .int .i64 x6, .int .i64 x7, .int .i64 a3] := by rw [hx] at rk; exact rk
        have hrz : Dp.Row wr w.heap.size 35 [.int .i64 0, .int .i64 0, .int .i64 0, .bool false, .int .i64 0, .int .i64 0, .int .i64 0, .int .i64 0, .int .i64 0, .int .i64 0, .int .i64 0, .int .i64 0, .int .i64 0] := rz
        have c0 := hrk.cellAt 0 (by simp)
        have c1 := hrk.cellAt 1 (by simp)
        have c2 := hrk.cellAt 2 (by simp)
        have c3 := hrk.cellAt 3 (by simp)
        have c4 := hrk.cellAt 4 (by simp)
        have c5 := hrk.cellAt 5 (by simp)
        have c6 := hrk.cellAt 6 (by simp)
        have c7 := hrk.cellAt 7 (by simp)
        have c8 := hrk.cellAt 8 (by simp)
        have c9 := hrk.cellAt 9 (by simp)
        have c10 := hrk.cellAt 10 (by simp)
        have c11 := hrk.cellAt 11 (by simp)
        have c12 := hrk.cellAt 12 (by simp)
        have d0 := hrz.cellAt 0 (by simp)
        have f0 := hrz.frozen 0
        have d1 := hrz.cellAt 1 (by simp)
        have f1 := hrz.frozen 1
        have d2 := hrz.cellAt 2 (by simp)
        have f2 := hrz.frozen 2
        have d3 := hrz.cellAt 3 (by simp)
        have f3 := hrz.frozen 3
        have d4 := hrz.cellAt 4 (by simp)
        have f4 := hrz.frozen 4
        have d5 := hrz.cellAt 5 (by simp)
        have f5 := hrz.frozen 5
        have d6 := hrz.cellAt 6 (by simp)
        have f6 := hrz.frozen 6
        have d7 := hrz.cellAt 7 (by simp)
        have f7 := hrz.frozen 7
        have d8 := hrz.cellAt 8 (by simp)
        have f8 := hrz.frozen 8
        have d9 := hrz.cellAt 9 (by simp)
        have f9 := hrz.frozen 9
        have d10 := hrz.cellAt 10 (by simp)
        have f10 := hrz.frozen 10
        have d11 := hrz.cellAt 11 (by simp)
        have f11 := hrz.frozen 11
        have d12 := hrz.cellAt 12 (by simp)
        have f12 := hrz.frozen 12
        have HR4 := Hid.mk_ (hrz.set13 (.int .i64 a0) (.int .i64 a1) (.int .i64 a2) (.bool ((B.toNat : Int) == 1)) (.int .i64 x0) (.int .i64 x1) (.int .i64 x2) (.int .i64 x3) (.int .i64 x4) (.int .i64 x5) (.int .i64 x6) (.int .i64 x7) (.int .i64 a3))
        have HK4 := Hid.mk_ (Dp.Keeps.set13 kz (g := w.heap.size) (Nat.le_refl _) (.int .i64 a0) (.int .i64 a1) (.int .i64 a2) (.bool ((B.toNat : Int) == 1)) (.int .i64 x0) (.int .i64 x1) (.int .i64 x2) (.int .i64 x3) (.int .i64 x4) (.int .i64 x5) (.int .i64 x6) (.int .i64 x7) (.int .i64 a3))
        have HV : Hid (Dp.stVal ⟨a0, a1, a2, ((B.toNat : Int) == 1), Dp.unregs l 8⟩ a3 = .agg [.int .i64 a0, .int .i64 a1, .int .i64 a2, .bool ((B.toNat : Int) == 1), .int .i64 x0, .int .i64 x1, .int .i64 x2, .int .i64 x3, .int .i64 x4, .int .i64 x5, .int .i64 x6, .int .i64 x7, .int .i64 a3].toArray) := by unfold Hid; rw [hx]; rfl
        have hg := HB.out
        clear rk rz kz hrk hrz h8
        simp only [List.getElem_cons_zero, List.getElem_cons_succ] at c0 c1 c2 c3 c4 c5 c6 c7 c8 c9 c10 c11 c12 d0 d1 d2 d3 d4 d5 d6 d7 d8 d9 d10 d11 d12
        go_wp2
        go_region
        go_wp2
        refine bodyPost_ret (Dp.results_row_tmp rfl _ _ w.heap.size 35 _ _ rfl HR4.out.drew Tryd.underlying35 rfl (by rw [sizeState]; rfl)) rfl ⟨by rw [HV.out]; rfl, HK4.out.drew⟩

end Go.Proofs.YtdipojfngdceoaaDoor
