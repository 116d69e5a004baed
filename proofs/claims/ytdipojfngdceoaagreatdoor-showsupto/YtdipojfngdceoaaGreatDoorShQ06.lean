/- Steps on the way: RefPlainC, RefPlainD. -/
import Derived.Test.YtdipojfngdceoaaGreatDoorShQ02
import Derived.Test.YtdipojfngdceoaaGreatDoorProg
import Derived.WalkKit
import Derived.WalkSpells
import Derived.WalkLawsBesides
import Derived.BigQuiet
import Derived.Deep.QuietTactic
namespace Go.Proofs.YtdipojfngdceoaaGreatDoor
open Go.RowKit
set_option maxRecDepth 100000 in
set_option maxHeartbeats 1000000 in
theorem refPlain7 (s : Dp.Cs) (root : Int) (i : Dp.Ins) (w : World) (hs : s.Ok) (hi : i.Ok) (hop : i.op = 7) :
  Calls Tryz.prog 89 #[Dp.stVal s root, Dp.insVal i] w fun e w' => e = .returned (.tuple #[Dp.stVal (Dp.plain s i).1 root, .int .i64 (Dp.plain s i).2]) ∧ Dp.Keeps (fun _ => False) w w' := by
 rw [Dp.plain_form s i (Dp.shlTo (s.reg i.b) (s.reg i.c % 32).toNat) (Dp.wrap (s.pc + 1)) (by rw [hop]; rfl) (by omega) (by omega) (by simp [Dp.aluOf, hop, Dp.shl, Dp.shlTo]) (by simp [Dp.nextOf, hop])]
 have hpc := hs.pc
 have hst := hs.steps
 have ha := hs.reg i.a
 have hb := hs.reg i.b
 have hc := hs.reg i.c
 unfold Dp.isWord at hpc hst ha hb hc
 go_enter Tryz.func89, Tryz.ntmps89
 go_wp2_with (refine Dp.wpList_box_row rfl 74 _ rfl (Dp.stCells s root) rfl ?_)
 intro w1 r1 z1 k1
 go_wp2_with (refine Dp.wpList_box_row rfl 143 _ rfl (Dp.insCells i) rfl ?_)
 intro w2 r2 z2 k2
 go_wp2_with (refine Dp.wpList_alloc_row rfl 74 rfl _ zeroState ?_)
 intro w3 r3 z3 k3
 have rs := (r1.keep k2 (fun e => e)).keep k3 (fun e => e)
 have ri := r2.keep k3 (fun e => e)
 have r3' : Dp.Row w3 (w.heap.size + 1 + 1) 74 ([] ++ Dp.stCells ⟨0, 0, 0, false, [0, 0, 0, 0, 0, 0, 0, 0]⟩ 0 ++ []) := by rw [List.append_nil, List.nil_append]; exact r3
 have kk : Dp.Keeps (fun _ => False) w w3 := (k1.trans k2).trans k3
 obtain ⟨c0, c1, c2, c3⟩ := rs.st
 obtain ⟨io, ia, ib, ic, inn⟩ := ri.insC
 have cra := rs.stReg hs.len i.a hi.a
 have crb := rs.stReg hs.len i.b hi.b
 have crc := rs.stReg hs.len i.c hi.c
 have f0 := rs.frozen 0
 have f1 := rs.frozen 1
 have f2 := rs.frozen 2
 have f3 := rs.frozen 3
 have fr := rs.frozen (4 + i.a.toNat)
 have hia := hi.a
 have hib := hi.b
 have hic := hi.c
 have hin := hi.n
 have hl := hs.len
 have hlm : (Dp.stCells ⟨Dp.wrap (s.pc + 1), Dp.wrap (s.steps + 1), s.code, s.over, s.regs.set i.a.toNat (Dp.shlTo (s.reg i.b) (s.reg i.c % 32).toNat)⟩ root).length = 13 := Dp.stCells_length _ _ (by simp [hl])
 have HM : Hid ((Dp.stCells ⟨Dp.wrap (s.pc + 1), Dp.wrap (s.steps + 1), s.code, s.over, s.regs.set i.a.toNat (Dp.shlTo (s.reg i.b) (s.reg i.c % 32).toNat)⟩ root).length = 13) := hlm
 clear r1 z1 k1 r2 z2 k2 r3 z3 k3 ri hlm
 go_wp2_with fail
 refine (refWrap _ _).mono ?_
 rintro e w' ⟨rfl, rfl⟩
 go_wp2_with fail
 refine (refShlI _ _ _ (by unfold Dp.isWord; omega) (by omega)).mono ?_
 rintro e w' ⟨rfl, rfl⟩
 go_wp2_with fail
 refine (refWrap _ _).mono ?_
 rintro e w' ⟨rfl, rfl⟩
 have HR := Hid.mk_ (Dp.tail_row (i := i) (Dp.shlTo (s.reg i.b) (s.reg i.c % 32).toNat) (Dp.wrap (s.pc + 1)) (Dp.wrap (s.steps + 1)) rs hl hia)
 have HR3 := Hid.mk_ (Dp.tail_other (g := w.heap.size) (4 + i.a.toNat) (.int .i64 (Dp.shlTo (s.reg i.b) (s.reg i.c % 32).toNat)) (.int .i64 (Dp.wrap (s.pc + 1))) (.int .i64 (Dp.wrap (s.steps + 1))) r3' (show w.heap.size + 1 + 1 ≠ w.heap.size by omega))
 go_wp2_with (refine Dp.wpList_load_in rfl 74 _ rfl w.heap.size 0 rfl 74 [] _ [] HR.out rfl _ Tryz.underlying74 rfl (by rw [sizeState, HM.out]) ?_)
 intro _
 go_wp2_with (refine Dp.wpList_store_in rfl 74 _ _ rfl (w.heap.size + 1 + 1) 0 rfl (Dp.stCells ⟨Dp.wrap (s.pc + 1), Dp.wrap (s.steps + 1), s.code, s.over, s.regs.set i.a.toNat (Dp.shlTo (s.reg i.b) (s.reg i.c % 32).toNat)⟩ root) rfl 74 [] _ [] HR3.out rfl (by rw [HM.out]; rfl) (by rw [sizeState, HM.out]) (Dp.stCells_one _ _) ?_)
 intro w4 r4 z4 k4
 go_wp2
 have r4' : Dp.Row w4 (w.heap.size + 1 + 1) 74 (Dp.stCells ⟨Dp.wrap (s.pc + 1), Dp.wrap (s.steps + 1), s.code, s.over, s.regs.set i.a.toNat (Dp.shlTo (s.reg i.b) (s.reg i.c % 32).toNat)⟩ root) := by simpa using r4
 refine bodyPost_ret (Dp.results_row_tmp rfl _ _ (w.heap.size + 1 + 1) 74 _ _ rfl r4' Tryz.underlying74 rfl (by rw [sizeState, HM.out])) rfl ⟨rfl, ?_⟩
 exact (Dp.tail_keeps _ _ _ _ kk (Nat.le_refl _)).next k4 (fun k hk e => by omega)
set_option maxRecDepth 100000 in
set_option maxHeartbeats 1000000 in
theorem refPlain8 (s : Dp.Cs) (root : Int) (i : Dp.Ins) (w : World) (hs : s.Ok) (hi : i.Ok) (hop : i.op = 8) :
  Calls Tryz.prog 89 #[Dp.stVal s root, Dp.insVal i] w fun e w' => e = .returned (.tuple #[Dp.stVal (Dp.plain s i).1 root, .int .i64 (Dp.plain s i).2]) ∧ Dp.Keeps (fun _ => False) w w' := by
 rw [Dp.plain_form s i (Dp.shrTo (s.reg i.b) (s.reg i.c % 32).toNat) (Dp.wrap (s.pc + 1)) (by rw [hop]; rfl) (by omega) (by omega) (by simp [Dp.aluOf, hop, Dp.shr, Dp.shrTo]) (by simp [Dp.nextOf, hop])]
 have hpc := hs.pc
 have hst := hs.steps
 have ha := hs.reg i.a
 have hb := hs.reg i.b
 have hc := hs.reg i.c
 unfold Dp.isWord at hpc hst ha hb hc
 go_enter Tryz.func89, Tryz.ntmps89
 go_wp2_with (refine Dp.wpList_box_row rfl 74 _ rfl (Dp.stCells s root) rfl ?_)
 intro w1 r1 z1 k1
 go_wp2_with (refine Dp.wpList_box_row rfl 143 _ rfl (Dp.insCells i) rfl ?_)
 intro w2 r2 z2 k2
 go_wp2_with (refine Dp.wpList_alloc_row rfl 74 rfl _ zeroState ?_)
 intro w3 r3 z3 k3
 have rs := (r1.keep k2 (fun e => e)).keep k3 (fun e => e)
 have ri := r2.keep k3 (fun e => e)
 have r3' : Dp.Row w3 (w.heap.size + 1 + 1) 74 ([] ++ Dp.stCells ⟨0, 0, 0, false, [0, 0, 0, 0, 0, 0, 0, 0]⟩ 0 ++ []) := by rw [List.append_nil, List.nil_append]; exact r3
 have kk : Dp.Keeps (fun _ => False) w w3 := (k1.trans k2).trans k3
 obtain ⟨c0, c1, c2, c3⟩ := rs.st
 obtain ⟨io, ia, ib, ic, inn⟩ := ri.insC
 have cra := rs.stReg hs.len i.a hi.a
 have crb := rs.stReg hs.len i.b hi.b
 have crc := rs.stReg hs.len i.c hi.c
 have f0 := rs.frozen 0
 have f1 := rs.frozen 1
 have f2 := rs.frozen 2
 have f3 := rs.frozen 3
 have fr := rs.frozen (4 + i.a.toNat)
 have hia := hi.a
 have hib := hi.b
 have hic := hi.c
 have hin := hi.n
 have hl := hs.len
 have hlm : (Dp.stCells ⟨Dp.wrap (s.pc + 1), Dp.wrap (s.steps + 1), s.code, s.over, s.regs.set i.a.toNat (Dp.shrTo (s.reg i.b) (s.reg i.c % 32).toNat)⟩ root).length = 13 := Dp.stCells_length _ _ (by simp [hl])
 have HM : Hid ((Dp.stCells ⟨Dp.wrap (s.pc + 1), Dp.wrap (s.steps + 1), s.code, s.over, s.regs.set i.a.toNat (Dp.shrTo (s.reg i.b) (s.reg i.c % 32).toNat)⟩ root).length = 13) := hlm
 clear r1 z1 k1 r2 z2 k2 r3 z3 k3 ri hlm
 go_wp2_with fail
 refine (refWrap _ _).mono ?_
 rintro e w' ⟨rfl, rfl⟩
 go_wp2_with fail
 refine (refShrI _ _ _ (by unfold Dp.isWord; omega) (by omega)).mono ?_
 rintro e w' ⟨rfl, rfl⟩
 go_wp2_with fail
 refine (refWrap _ _).mono ?_
 rintro e w' ⟨rfl, rfl⟩
 have HR := Hid.mk_ (Dp.tail_row (i := i) (Dp.shrTo (s.reg i.b) (s.reg i.c % 32).toNat) (Dp.wrap (s.pc + 1)) (Dp.wrap (s.steps + 1)) rs hl hia)
 have HR3 := Hid.mk_ (Dp.tail_other (g := w.heap.size) (4 + i.a.toNat) (.int .i64 (Dp.shrTo (s.reg i.b) (s.reg i.c % 32).toNat)) (.int .i64 (Dp.wrap (s.pc + 1))) (.int .i64 (Dp.wrap (s.steps + 1))) r3' (show w.heap.size + 1 + 1 ≠ w.heap.size by omega))
 go_wp2_with (refine Dp.wpList_load_in rfl 74 _ rfl w.heap.size 0 rfl 74 [] _ [] HR.out rfl _ Tryz.underlying74 rfl (by rw [sizeState, HM.out]) ?_)
 intro _
 go_wp2_with (refine Dp.wpList_store_in rfl 74 _ _ rfl (w.heap.size + 1 + 1) 0 rfl (Dp.stCells ⟨Dp.wrap (s.pc + 1), Dp.wrap (s.steps + 1), s.code, s.over, s.regs.set i.a.toNat (Dp.shrTo (s.reg i.b) (s.reg i.c % 32).toNat)⟩ root) rfl 74 [] _ [] HR3.out rfl (by rw [HM.out]; rfl) (by rw [sizeState, HM.out]) (Dp.stCells_one _ _) ?_)
 intro w4 r4 z4 k4
 go_wp2
 have r4' : Dp.Row w4 (w.heap.size + 1 + 1) 74 (Dp.stCells ⟨Dp.wrap (s.pc + 1), Dp.wrap (s.steps + 1), s.code, s.over, s.regs.set i.a.toNat (Dp.shrTo (s.reg i.b) (s.reg i.c % 32).toNat)⟩ root) := by simpa using r4
 refine bodyPost_ret (Dp.results_row_tmp rfl _ _ (w.heap.size + 1 + 1) 74 _ _ rfl r4' Tryz.underlying74 rfl (by rw [sizeState, HM.out])) rfl ⟨rfl, ?_⟩
 exact (Dp.tail_keeps _ _ _ _ kk (Nat.le_refl _)).next k4 (fun k hk e => by omega)
set_option maxRecDepth 100000 in
set_option maxHeartbeats 1000000 in
theorem refPlain9 (s : Dp.Cs) (root : Int) (i : Dp.Ins) (w : World) (hs : s.Ok) (hi : i.Ok) (hop : i.op = 9) :
  Calls Tryz.prog 89 #[Dp.stVal s root, Dp.insVal i] w fun e w' => e = .returned (.tuple #[Dp.stVal (Dp.plain s i).1 root, .int .i64 (Dp.plain s i).2]) ∧ Dp.Keeps (fun _ => False) w w' := by
 rw [Dp.plain_form s i (Dp.one (decide (Dp.signed (s.reg i.b) < Dp.signed (s.reg i.c)))) (Dp.wrap (s.pc + 1)) (by rw [hop]; rfl) (by omega) (by omega) (by simp [Dp.aluOf, hop]) (by simp [Dp.nextOf, hop])]
 have hpc := hs.pc
 have hst := hs.steps
 have ha := hs.reg i.a
 have hb := hs.reg i.b
 have hc := hs.reg i.c
 unfold Dp.isWord at hpc hst ha hb hc
 go_enter Tryz.func89, Tryz.ntmps89
 go_wp2_with (refine Dp.wpList_box_row rfl 74 _ rfl (Dp.stCells s root) rfl ?_)
 intro w1 r1 z1 k1
 go_wp2_with (refine Dp.wpList_box_row rfl 143 _ rfl (Dp.insCells i) rfl ?_)
 intro w2 r2 z2 k2
 go_wp2_with (refine Dp.wpList_alloc_row rfl 74 rfl _ zeroState ?_)
 intro w3 r3 z3 k3
 have rs := (r1.keep k2 (fun e => e)).keep k3 (fun e => e)
 have ri := r2.keep k3 (fun e => e)
 have r3' : Dp.Row w3 (w.heap.size + 1 + 1) 74 ([] ++ Dp.stCells ⟨0, 0, 0, false, [0, 0, 0, 0, 0, 0, 0, 0]⟩ 0 ++ []) := by rw [List.append_nil, List.nil_append]; exact r3
 have kk : Dp.Keeps (fun _ => False) w w3 := (k1.trans k2).trans k3
 obtain ⟨c0, c1, c2, c3⟩ := rs.st
 obtain ⟨io, ia, ib, ic, inn⟩ := ri.insC
 have cra := rs.stReg hs.len i.a hi.a
 have crb := rs.stReg hs.len i.b hi.b
 have crc := rs.stReg hs.len i.c hi.c
 have f0 := rs.frozen 0
 have f1 := rs.frozen 1
 have f2 := rs.frozen 2
 have f3 := rs.frozen 3
 have fr := rs.frozen (4 + i.a.toNat)
 have hia := hi.a
 have hib := hi.b
 have hic := hi.c
 have hin := hi.n
 have hl := hs.len
 have hlm : (Dp.stCells ⟨Dp.wrap (s.pc + 1), Dp.wrap (s.steps + 1), s.code, s.over, s.regs.set i.a.toNat (Dp.one (decide (Dp.signed (s.reg i.b) < Dp.signed (s.reg i.c))))⟩ root).length = 13 := Dp.stCells_length _ _ (by simp [hl])
 have HM : Hid ((Dp.stCells ⟨Dp.wrap (s.pc + 1), Dp.wrap (s.steps + 1), s.code, s.over, s.regs.set i.a.toNat (Dp.one (decide (Dp.signed (s.reg i.b) < Dp.signed (s.reg i.c))))⟩ root).length = 13) := hlm
 clear r1 z1 k1 r2 z2 k2 r3 z3 k3 ri hlm
 go_wp2_with fail
 refine (refWrap _ _).mono ?_
 rintro e w' ⟨rfl, rfl⟩
 go_wp2_with fail
 refine (refSigned _ _ (by unfold Dp.isWord; omega)).mono ?_
 rintro e w' ⟨rfl, rfl⟩
 go_wp2_with fail
 refine (refSigned _ _ (by unfold Dp.isWord; omega)).mono ?_
 rintro e w' ⟨rfl, rfl⟩
 go_wp2_with fail
 refine (refOne _ _).mono ?_
 rintro e w' ⟨rfl, rfl⟩
 go_wp2_with fail
 refine (refWrap _ _).mono ?_
 rintro e w' ⟨rfl, rfl⟩
 have HR := Hid.mk_ (Dp.tail_row (i := i) (Dp.one (decide (Dp.signed (s.reg i.b) < Dp.signed (s.reg i.c)))) (Dp.wrap (s.pc + 1)) (Dp.wrap (s.steps + 1)) rs hl hia)
 have HR3 := Hid.mk_ (Dp.tail_other (g := w.heap.size) (4 + i.a.toNat) (.int .i64 (Dp.one (decide (Dp.signed (s.reg i.b) < Dp.signed (s.reg i.c))))) (.int .i64 (Dp.wrap (s.pc + 1))) (.int .i64 (Dp.wrap (s.steps + 1))) r3' (show w.heap.size + 1 + 1 ≠ w.heap.size by omega))
 go_wp2_with (refine Dp.wpList_load_in rfl 74 _ rfl w.heap.size 0 rfl 74 [] _ [] HR.out rfl _ Tryz.underlying74 rfl (by rw [sizeState, HM.out]) ?_)
 intro _
 go_wp2_with (refine Dp.wpList_store_in rfl 74 _ _ rfl (w.heap.size + 1 + 1) 0 rfl (Dp.stCells ⟨Dp.wrap (s.pc + 1), Dp.wrap (s.steps + 1), s.code, s.over, s.regs.set i.a.toNat (Dp.one (decide (Dp.signed (s.reg i.b) < Dp.signed (s.reg i.c))))⟩ root) rfl 74 [] _ [] HR3.out rfl (by rw [HM.out]; rfl) (by rw [sizeState, HM.out]) (Dp.stCells_one _ _) ?_)
 intro w4 r4 z4 k4
 go_wp2
 have r4' : Dp.Row w4 (w.heap.size + 1 + 1) 74 (Dp.stCells ⟨Dp.wrap (s.pc + 1), Dp.wrap (s.steps + 1), s.code, s.over, s.regs.set i.a.toNat (Dp.one (decide (Dp.signed (s.reg i.b) < Dp.signed (s.reg i.c))))⟩ root) := by simpa using r4
 refine bodyPost_ret (Dp.results_row_tmp rfl _ _ (w.heap.size + 1 + 1) 74 _ _ rfl r4' Tryz.underlying74 rfl (by rw [sizeState, HM.out])) rfl ⟨rfl, ?_⟩
 exact (Dp.tail_keeps _ _ _ _ kk (Nat.le_refl _)).next k4 (fun k hk e => by omega)
set_option maxRecDepth 100000 in
set_option maxHeartbeats 1000000 in
theorem refPlain10 (s : Dp.Cs) (root : Int) (i : Dp.Ins) (w : World) (hs : s.Ok) (hi : i.Ok) (hop : i.op = 10) (hc0 : s.reg i.c ≠ 0) :
  Calls Tryz.prog 89 #[Dp.stVal s root, Dp.insVal i] w fun e w' => e = .returned (.tuple #[Dp.stVal (Dp.plain s i).1 root, .int .i64 (Dp.plain s i).2]) ∧ Dp.Keeps (fun _ => False) w w' := by
 rw [Dp.plain_form s i (s.reg i.b / s.reg i.c) (Dp.wrap (s.pc + 1)) (by rw [hop]; rfl) (fun h => hc0 h.2) (by omega) (by simp [Dp.aluOf, hop]) (by simp [Dp.nextOf, hop])]
 have hpc := hs.pc
 have hst := hs.steps
 have ha := hs.reg i.a
 have hb := hs.reg i.b
 have hc := hs.reg i.c
 have hcz : (s.reg i.c == 0) = false := by simpa using hc0
 have hc1 : 1 ≤ s.reg i.c := by unfold Dp.isWord at hc; omega
 have hdb := hb
 unfold Dp.isWord at hpc hst ha hb hc
 go_enter Tryz.func89, Tryz.ntmps89
 go_wp2_with (refine Dp.wpList_box_row rfl 74 _ rfl (Dp.stCells s root) rfl ?_)
 intro w1 r1 z1 k1
 go_wp2_with (refine Dp.wpList_box_row rfl 143 _ rfl (Dp.insCells i) rfl ?_)
 intro w2 r2 z2 k2
 go_wp2_with (refine Dp.wpList_alloc_row rfl 74 rfl _ zeroState ?_)
 intro w3 r3 z3 k3
 have rs := (r1.keep k2 (fun e => e)).keep k3 (fun e => e)
 have ri := r2.keep k3 (fun e => e)
 have r3' : Dp.Row w3 (w.heap.size + 1 + 1) 74 ([] ++ Dp.stCells ⟨0, 0, 0, false, [0, 0, 0, 0, 0, 0, 0, 0]⟩ 0 ++ []) := by rw [List.append_nil, List.nil_append]; exact r3
 have kk : Dp.Keeps (fun _ => False) w w3 := (k1.trans k2).trans k3
 obtain ⟨c0, c1, c2, c3⟩ := rs.st
 obtain ⟨io, ia, ib, ic, inn⟩ := ri.insC
 have cra := rs.stReg hs.len i.a hi.a
 have crb := rs.stReg hs.len i.b hi.b
 have crc := rs.stReg hs.len i.c hi.c
 have f0 := rs.frozen 0
 have f1 := rs.frozen 1
 have f2 := rs.frozen 2
 have f3 := rs.frozen 3
 have fr := rs.frozen (4 + i.a.toNat)
 have hia := hi.a
 have hib := hi.b
 have hic := hi.c
 have hin := hi.n
 have hl := hs.len
 have hlm : (Dp.stCells ⟨Dp.wrap (s.pc + 1), Dp.wrap (s.steps + 1), s.code, s.over, s.regs.set i.a.toNat (s.reg i.b / s.reg i.c)⟩ root).length = 13 := Dp.stCells_length _ _ (by simp [hl])
 have HM : Hid ((Dp.stCells ⟨Dp.wrap (s.pc + 1), Dp.wrap (s.steps + 1), s.code, s.over, s.regs.set i.a.toNat (s.reg i.b / s.reg i.c)⟩ root).length = 13) := hlm
 clear r1 z1 k1 r2 z2 k2 r3 z3 k3 ri hlm
 go_wp2_with fail
 refine (refWrap _ _).mono ?_
 rintro e w' ⟨rfl, rfl⟩
 go_wp2_with fail
 refine (refWrap _ _).mono ?_
 rintro e w' ⟨rfl, rfl⟩
 have HR := Hid.mk_ (Dp.tail_row (i := i) (s.reg i.b / s.reg i.c) (Dp.wrap (s.pc + 1)) (Dp.wrap (s.steps + 1)) rs hl hia)
 have HR3 := Hid.mk_ (Dp.tail_other (g := w.heap.size) (4 + i.a.toNat) (.int .i64 (s.reg i.b / s.reg i.c)) (.int .i64 (Dp.wrap (s.pc + 1))) (.int .i64 (Dp.wrap (s.steps + 1))) r3' (show w.heap.size + 1 + 1 ≠ w.heap.size by omega))
 go_wp2_with (refine Dp.wpList_load_in rfl 74 _ rfl w.heap.size 0 rfl 74 [] _ [] HR.out rfl _ Tryz.underlying74 rfl (by rw [sizeState, HM.out]) ?_)
 intro _
 go_wp2_with (refine Dp.wpList_store_in rfl 74 _ _ rfl (w.heap.size + 1 + 1) 0 rfl (Dp.stCells ⟨Dp.wrap (s.pc + 1), Dp.wrap (s.steps + 1), s.code, s.over, s.regs.set i.a.toNat (s.reg i.b / s.reg i.c)⟩ root) rfl 74 [] _ [] HR3.out rfl (by rw [HM.out]; rfl) (by rw [sizeState, HM.out]) (Dp.stCells_one _ _) ?_)
 intro w4 r4 z4 k4
 go_wp2
 have r4' : Dp.Row w4 (w.heap.size + 1 + 1) 74 (Dp.stCells ⟨Dp.wrap (s.pc + 1), Dp.wrap (s.steps + 1), s.code, s.over, s.regs.set i.a.toNat (s.reg i.b / s.reg i.c)⟩ root) := by simpa using r4
 refine bodyPost_ret (Dp.results_row_tmp rfl _ _ (w.heap.size + 1 + 1) 74 _ _ rfl r4' Tryz.underlying74 rfl (by rw [sizeState, HM.out])) rfl ⟨rfl, ?_⟩
 exact (Dp.tail_keeps _ _ _ _ kk (Nat.le_refl _)).next k4 (fun k hk e => by omega)
set_option maxRecDepth 100000 in
set_option maxHeartbeats 1000000 in
theorem refPlain15y (s : Dp.Cs) (root : Int) (i : Dp.Ins) (w : World) (hs : s.Ok) (hi : i.Ok) (hop : i.op = 15) (ht : (s.reg i.a == s.reg i.b) = true) :
  Calls Tryz.prog 89 #[Dp.stVal s root, Dp.insVal i] w fun e w' => e = .returned (.tuple #[Dp.stVal (Dp.plain s i).1 root, .int .i64 (Dp.plain s i).2]) ∧ Dp.Keeps (fun _ => False) w w' := by
 rw [Dp.plain_form s i (s.reg i.a) (Dp.wrap (Dp.wrap (s.pc + 1) + i.n)) (by rw [hop]; rfl) (by omega) (by omega) (by simp [Dp.aluOf, hop]) (by simp only [Dp.nextOf, hop]; simp [ht, Dp.one])]
 have hpc := hs.pc
 have hst := hs.steps
 have ha := hs.reg i.a
 have hb := hs.reg i.b
 have hc := hs.reg i.c
 have hwp := Dp.wrap_word (s.pc + 1)
 unfold Dp.isWord at hwp
 have ho1 : Dp.one true = 1 := rfl
 unfold Dp.isWord at hpc hst ha hb hc
 go_enter Tryz.func89, Tryz.ntmps89
 go_wp2_with (refine Dp.wpList_box_row rfl 74 _ rfl (Dp.stCells s root) rfl ?_)
 intro w1 r1 z1 k1
 go_wp2_with (refine Dp.wpList_box_row rfl 143 _ rfl (Dp.insCells i) rfl ?_)
 intro w2 r2 z2 k2
 go_wp2_with (refine Dp.wpList_alloc_row rfl 74 rfl _ zeroState ?_)
 intro w3 r3 z3 k3
 have rs := (r1.keep k2 (fun e => e)).keep k3 (fun e => e)
 have ri := r2.keep k3 (fun e => e)
 have r3' : Dp.Row w3 (w.heap.size + 1 + 1) 74 ([] ++ Dp.stCells ⟨0, 0, 0, false, [0, 0, 0, 0, 0, 0, 0, 0]⟩ 0 ++ []) := by rw [List.append_nil, List.nil_append]; exact r3
 have kk : Dp.Keeps (fun _ => False) w w3 := (k1.trans k2).trans k3
 obtain ⟨c0, c1, c2, c3⟩ := rs.st
 obtain ⟨io, ia, ib, ic, inn⟩ := ri.insC
 have cra := rs.stReg hs.len i.a hi.a
 have crb := rs.stReg hs.len i.b hi.b
 have crc := rs.stReg hs.len i.c hi.c
 have f0 := rs.frozen 0
 have f1 := rs.frozen 1
 have f2 := rs.frozen 2
 have f3 := rs.frozen 3
 have fr := rs.frozen (4 + i.a.toNat)
 have hia := hi.a
 have hib := hi.b
 have hic := hi.c
 have hin := hi.n
 have hl := hs.len
 have hlm : (Dp.stCells ⟨Dp.wrap (Dp.wrap (s.pc + 1) + i.n), Dp.wrap (s.steps + 1), s.code, s.over, s.regs.set i.a.toNat (s.reg i.a)⟩ root).length = 13 := Dp.stCells_length _ _ (by simp [hl])
 have HM : Hid ((Dp.stCells ⟨Dp.wrap (Dp.wrap (s.pc + 1) + i.n), Dp.wrap (s.steps + 1), s.code, s.over, s.regs.set i.a.toNat (s.reg i.a)⟩ root).length = 13) := hlm
 clear r1 z1 k1 r2 z2 k2 r3 z3 k3 ri hlm
 go_wp2_with fail
 refine (refWrap _ _).mono ?_
 rintro e w' ⟨rfl, rfl⟩
 go_wp2
 go_quiet ((first | (go_at_call 110; exact Calls.quiet_of_same (refOne _ _)) | (go_at_call 85; exact Calls.quiet_of_same (refWrap _ _))))
 go_wp2_with fail
 refine (refWrap _ _).mono ?_
 rintro e w' ⟨rfl, rfl⟩
 have HR := Hid.mk_ (Dp.tail_row (i := i) (s.reg i.a) (Dp.wrap (Dp.wrap (s.pc + 1) + i.n)) (Dp.wrap (s.steps + 1)) (rs.drewN nq) hl hia)
 have HR3 := Hid.mk_ (Dp.tail_other (g := w.heap.size) (4 + i.a.toNat) (.int .i64 (s.reg i.a)) (.int .i64 (Dp.wrap (Dp.wrap (s.pc + 1) + i.n))) (.int .i64 (Dp.wrap (s.steps + 1))) (r3'.drewN nq) (show w.heap.size + 1 + 1 ≠ w.heap.size by omega))
 go_wp2_with (refine Dp.wpList_load_in rfl 74 _ rfl w.heap.size 0 rfl 74 [] _ [] HR.out rfl _ Tryz.underlying74 rfl (by rw [sizeState, HM.out]) ?_)
 intro _
 go_wp2_with (refine Dp.wpList_store_in rfl 74 _ _ rfl (w.heap.size + 1 + 1) 0 rfl (Dp.stCells ⟨Dp.wrap (Dp.wrap (s.pc + 1) + i.n), Dp.wrap (s.steps + 1), s.code, s.over, s.regs.set i.a.toNat (s.reg i.a)⟩ root) rfl 74 [] _ [] HR3.out rfl (by rw [HM.out]; rfl) (by rw [sizeState, HM.out]) (Dp.stCells_one _ _) ?_)
 intro w4 r4 z4 k4
 go_wp2
 have r4' : Dp.Row w4 (w.heap.size + 1 + 1) 74 (Dp.stCells ⟨Dp.wrap (Dp.wrap (s.pc + 1) + i.n), Dp.wrap (s.steps + 1), s.code, s.over, s.regs.set i.a.toNat (s.reg i.a)⟩ root) := by simpa using r4
 refine bodyPost_ret (Dp.results_row_tmp rfl _ _ (w.heap.size + 1 + 1) 74 _ _ rfl r4' Tryz.underlying74 rfl (by rw [sizeState, HM.out])) rfl ⟨rfl, ?_⟩
 exact (Dp.tail_keeps _ _ _ _ (kk.drewN nq) (Nat.le_refl _)).next k4 (fun k hk e => by omega)
set_option maxRecDepth 100000 in
set_option maxHeartbeats 1000000 in
theorem refPlain15n (s : Dp.Cs) (root : Int) (i : Dp.Ins) (w : World) (hs : s.Ok) (hi : i.Ok) (hop : i.op = 15) (ht : (s.reg i.a == s.reg i.b) = false) :
  Calls Tryz.prog 89 #[Dp.stVal s root, Dp.insVal i] w fun e w' => e = .returned (.tuple #[Dp.stVal (Dp.plain s i).1 root, .int .i64 (Dp.plain s i).2]) ∧ Dp.Keeps (fun _ => False) w w' := by
 rw [Dp.plain_form s i (s.reg i.a) (Dp.wrap (Dp.wrap (s.pc + 1))) (by rw [hop]; rfl) (by omega) (by omega) (by simp [Dp.aluOf, hop]) (by simp only [Dp.nextOf, hop]; simp [ht, Dp.one])]
 have hpc := hs.pc
 have hst := hs.steps
 have ha := hs.reg i.a
 have hb := hs.reg i.b
 have hc := hs.reg i.c
 have hwp := Dp.wrap_word (s.pc + 1)
 unfold Dp.isWord at hwp
 have ho1 : Dp.one false = 0 := rfl
 unfold Dp.isWord at hpc hst ha hb hc
 go_enter Tryz.func89, Tryz.ntmps89
 go_wp2_with (refine Dp.wpList_box_row rfl 74 _ rfl (Dp.stCells s root) rfl ?_)
 intro w1 r1 z1 k1
 go_wp2_with (refine Dp.wpList_box_row rfl 143 _ rfl (Dp.insCells i) rfl ?_)
 intro w2 r2 z2 k2
 go_wp2_with (refine Dp.wpList_alloc_row rfl 74 rfl _ zeroState ?_)
 intro w3 r3 z3 k3
 have rs := (r1.keep k2 (fun e => e)).keep k3 (fun e => e)
 have ri := r2.keep k3 (fun e => e)
 have r3' : Dp.Row w3 (w.heap.size + 1 + 1) 74 ([] ++ Dp.stCells ⟨0, 0, 0, false, [0, 0, 0, 0, 0, 0, 0, 0]⟩ 0 ++ []) := by rw [List.append_nil, List.nil_append]; exact r3
 have kk : Dp.Keeps (fun _ => False) w w3 := (k1.trans k2).trans k3
 obtain ⟨c0, c1, c2, c3⟩ := rs.st
 obtain ⟨io, ia, ib, ic, inn⟩ := ri.insC
 have cra := rs.stReg hs.len i.a hi.a
 have crb := rs.stReg hs.len i.b hi.b
 have crc := rs.stReg hs.len i.c hi.c
 have f0 := rs.frozen 0
 have f1 := rs.frozen 1
 have f2 := rs.frozen 2
 have f3 := rs.frozen 3
 have fr := rs.frozen (4 + i.a.toNat)
 have hia := hi.a
 have hib := hi.b
 have hic := hi.c
 have hin := hi.n
 have hl := hs.len
 have hlm : (Dp.stCells ⟨Dp.wrap (Dp.wrap (s.pc + 1)), Dp.wrap (s.steps + 1), s.code, s.over, s.regs.set i.a.toNat (s.reg i.a)⟩ root).length = 13 := Dp.stCells_length _ _ (by simp [hl])
 have HM : Hid ((Dp.stCells ⟨Dp.wrap (Dp.wrap (s.pc + 1)), Dp.wrap (s.steps + 1), s.code, s.over, s.regs.set i.a.toNat (s.reg i.a)⟩ root).length = 13) := hlm
 clear r1 z1 k1 r2 z2 k2 r3 z3 k3 ri hlm
 go_wp2_with fail
 refine (refWrap _ _).mono ?_
 rintro e w' ⟨rfl, rfl⟩
 go_wp2
 go_quiet ((first | (go_at_call 110; exact Calls.quiet_of_same (refOne _ _)) | (go_at_call 85; exact Calls.quiet_of_same (refWrap _ _))))
 go_wp2_with fail
 refine (refWrap _ _).mono ?_
 rintro e w' ⟨rfl, rfl⟩
 have HR := Hid.mk_ (Dp.tail_row (i := i) (s.reg i.a) (Dp.wrap (Dp.wrap (s.pc + 1))) (Dp.wrap (s.steps + 1)) (rs.drewN nq) hl hia)
 have HR3 := Hid.mk_ (Dp.tail_other (g := w.heap.size) (4 + i.a.toNat) (.int .i64 (s.reg i.a)) (.int .i64 (Dp.wrap (Dp.wrap (s.pc + 1)))) (.int .i64 (Dp.wrap (s.steps + 1))) (r3'.drewN nq) (show w.heap.size + 1 + 1 ≠ w.heap.size by omega))
 go_wp2_with (refine Dp.wpList_load_in rfl 74 _ rfl w.heap.size 0 rfl 74 [] _ [] HR.out rfl _ Tryz.underlying74 rfl (by rw [sizeState, HM.out]) ?_)
 intro _
 go_wp2_with (refine Dp.wpList_store_in rfl 74 _ _ rfl (w.heap.size + 1 + 1) 0 rfl (Dp.stCells ⟨Dp.wrap (Dp.wrap (s.pc + 1)), Dp.wrap (s.steps + 1), s.code, s.over, s.regs.set i.a.toNat (s.reg i.a)⟩ root) rfl 74 [] _ [] HR3.out rfl (by rw [HM.out]; rfl) (by rw [sizeState, HM.out]) (Dp.stCells_one _ _) ?_)
 intro w4 r4 z4 k4
 go_wp2
 have r4' : Dp.Row w4 (w.heap.size + 1 + 1) 74 (Dp.stCells ⟨Dp.wrap (Dp.wrap (s.pc + 1)), Dp.wrap (s.steps + 1), s.code, s.over, s.regs.set i.a.toNat (s.reg i.a)⟩ root) := by simpa using r4
 refine bodyPost_ret (Dp.results_row_tmp rfl _ _ (w.heap.size + 1 + 1) 74 _ _ rfl r4' Tryz.underlying74 rfl (by rw [sizeState, HM.out])) rfl ⟨rfl, ?_⟩
 exact (Dp.tail_keeps _ _ _ _ (kk.drewN nq) (Nat.le_refl _)).next k4 (fun k hk e => by omega)
set_option maxRecDepth 100000 in
set_option maxHeartbeats 1000000 in
theorem refPlain16y (s : Dp.Cs) (root : Int) (i : Dp.Ins) (w : World) (hs : s.Ok) (hi : i.Ok) (hop : i.op = 16) (ht : (s.reg i.a != s.reg i.b) = true) :
  Calls Tryz.prog 89 #[Dp.stVal s root, Dp.insVal i] w fun e w' => e = .returned (.tuple #[Dp.stVal (Dp.plain s i).1 root, .int .i64 (Dp.plain s i).2]) ∧ Dp.Keeps (fun _ => False) w w' := by
 rw [Dp.plain_form s i (s.reg i.a) (Dp.wrap (Dp.wrap (s.pc + 1) + i.n)) (by rw [hop]; rfl) (by omega) (by omega) (by simp [Dp.aluOf, hop]) (by simp only [Dp.nextOf, hop]; simp [ht, Dp.one])]
 have hpc := hs.pc
 have hst := hs.steps
 have ha := hs.reg i.a
 have hb := hs.reg i.b
 have hc := hs.reg i.c
 have hwp := Dp.wrap_word (s.pc + 1)
 unfold Dp.isWord at hwp
 have ho1 : Dp.one true = 1 := rfl
 unfold Dp.isWord at hpc hst ha hb hc
 go_enter Tryz.func89, Tryz.ntmps89
 go_wp2_with (refine Dp.wpList_box_row rfl 74 _ rfl (Dp.stCells s root) rfl ?_)
 intro w1 r1 z1 k1
 go_wp2_with (refine Dp.wpList_box_row rfl 143 _ rfl (Dp.insCells i) rfl ?_)
 intro w2 r2 z2 k2
 go_wp2_with (refine Dp.wpList_alloc_row rfl 74 rfl _ zeroState ?_)
 intro w3 r3 z3 k3
 have rs := (r1.keep k2 (fun e => e)).keep k3 (fun e => e)
 have ri := r2.keep k3 (fun e => e)
 have r3' : Dp.Row w3 (w.heap.size + 1 + 1) 74 ([] ++ Dp.stCells ⟨0, 0, 0, false, [0, 0, 0, 0, 0, 0, 0, 0]⟩ 0 ++ []) := by rw [List.append_nil, List.nil_append]; exact r3
 have kk : Dp.Keeps (fun _ => False) w w3 := (k1.trans k2).trans k3
 obtain ⟨c0, c1, c2, c3⟩ := rs.st
 obtain ⟨io, ia, ib, ic, inn⟩ := ri.insC
 have cra := rs.stReg hs.len i.a hi.a
 have crb := rs.stReg hs.len i.b hi.b
 have crc := rs.stReg hs.len i.c hi.c
 have f0 := rs.frozen 0
 have f1 := rs.frozen 1
 have f2 := rs.frozen 2
 have f3 := rs.frozen 3
 have fr := rs.frozen (4 + i.a.toNat)
 have hia := hi.a
 have hib := hi.b
 have hic := hi.c
 have hin := hi.n
 have hl := hs.len
 have hlm : (Dp.stCells ⟨Dp.wrap (Dp.wrap (s.pc + 1) + i.n), Dp.wrap (s.steps + 1), s.code, s.over, s.regs.set i.a.toNat (s.reg i.a)⟩ root).length = 13 := Dp.stCells_length _ _ (by simp [hl])
 have HM : Hid ((Dp.stCells ⟨Dp.wrap (Dp.wrap (s.pc + 1) + i.n), Dp.wrap (s.steps + 1), s.code, s.over, s.regs.set i.a.toNat (s.reg i.a)⟩ root).length = 13) := hlm
 clear r1 z1 k1 r2 z2 k2 r3 z3 k3 ri hlm
 go_wp2_with fail
 refine (refWrap _ _).mono ?_
 rintro e w' ⟨rfl, rfl⟩
 go_wp2
 go_quiet ((first | (go_at_call 110; exact Calls.quiet_of_same (refOne _ _)) | (go_at_call 85; exact Calls.quiet_of_same (refWrap _ _))))
 go_wp2_with fail
 refine (refWrap _ _).mono ?_
 rintro e w' ⟨rfl, rfl⟩
 have HR := Hid.mk_ (Dp.tail_row (i := i) (s.reg i.a) (Dp.wrap (Dp.wrap (s.pc + 1) + i.n)) (Dp.wrap (s.steps + 1)) (rs.drewN nq) hl hia)
 have HR3 := Hid.mk_ (Dp.tail_other (g := w.heap.size) (4 + i.a.toNat) (.int .i64 (s.reg i.a)) (.int .i64 (Dp.wrap (Dp.wrap (s.pc + 1) + i.n))) (.int .i64 (Dp.wrap (s.steps + 1))) (r3'.drewN nq) (show w.heap.size + 1 + 1 ≠ w.heap.size by omega))
 go_wp2_with (refine Dp.wpList_load_in rfl 74 _ rfl w.heap.size 0 rfl 74 [] _ [] HR.out rfl _ Tryz.underlying74 rfl (by rw [sizeState, HM.out]) ?_)
 intro _
 go_wp2_with (refine Dp.wpList_store_in rfl 74 _ _ rfl (w.heap.size + 1 + 1) 0 rfl (Dp.stCells ⟨Dp.wrap (Dp.wrap (s.pc + 1) + i.n), Dp.wrap (s.steps + 1), s.code, s.over, s.regs.set i.a.toNat (s.reg i.a)⟩ root) rfl 74 [] _ [] HR3.out rfl (by rw [HM.out]; rfl) (by rw [sizeState, HM.out]) (Dp.stCells_one _ _) ?_)
 intro w4 r4 z4 k4
 go_wp2
 have r4' : Dp.Row w4 (w.heap.size + 1 + 1) 74 (Dp.stCells ⟨Dp.wrap (Dp.wrap (s.pc + 1) + i.n), Dp.wrap (s.steps + 1), s.code, s.over, s.regs.set i.a.toNat (s.reg i.a)⟩ root) := by simpa using r4
 refine bodyPost_ret (Dp.results_row_tmp rfl _ _ (w.heap.size + 1 + 1) 74 _ _ rfl r4' Tryz.underlying74 rfl (by rw [sizeState, HM.out])) rfl ⟨rfl, ?_⟩
 exact (Dp.tail_keeps _ _ _ _ (kk.drewN nq) (Nat.le_refl _)).next k4 (fun k hk e => by omega)
end Go.Proofs.YtdipojfngdceoaaGreatDoor
