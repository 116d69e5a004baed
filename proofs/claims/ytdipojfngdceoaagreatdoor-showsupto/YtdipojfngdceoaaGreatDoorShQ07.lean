/- Steps on the way: RefPlainE, RefPlainF, RefPlain, RefStepQ, RefSum. -/
import Derived.Test.YtdipojfngdceoaaGreatDoorShQ01
import Derived.Test.YtdipojfngdceoaaGreatDoorShQ02
import Derived.Test.YtdipojfngdceoaaGreatDoorShQ03
import Derived.Test.YtdipojfngdceoaaGreatDoorShQ05
import Derived.Test.YtdipojfngdceoaaGreatDoorShQ06
import Derived.Test.YtdipojfngdceoaaGreatDoorProg
import Derived.WalkKit
import Derived.WalkSpells
import Derived.WalkLawsBesides
import Derived.BigQuiet
import Derived.Deep.QuietTactic
import Derived.Deep.RegionHeld3
import Derived.Deep.DeepCutAuto
import Derived.Deep.DrawnRows
namespace Go.Proofs.YtdipojfngdceoaaGreatDoor
open Go.RowKit
set_option maxRecDepth 100000 in
set_option maxHeartbeats 1000000 in
theorem refPlain16n (s : Dp.Cs) (root : Int) (i : Dp.Ins) (w : World) (hs : s.Ok) (hi : i.Ok) (hop : i.op = 16) (ht : (s.reg i.a != s.reg i.b) = false) :
  Calls Tryz.prog 89 #[Dp.stVal s root, Dp.insVal i] w fun e w' => e = .returned (.tuple #[Dp.stVal (Dp.plain s i).1 root, .int .i64 (Dp.plain s i).2]) ∧ Dp.Keeps (fun _ => False) w w' := by
 rw [Dp.plain_form s i (s.reg i.a) (Dp.wrap (Dp.wrap (s.pc + 1))) (by rw [hop]; rfl) (by omega) (by omega) (by simp [Dp.aluOf, hop]) (by simp only [Dp.nextOf, hop]; simp [ht, Dp.one])]
 have hpc := hs.pc
 have hst := hs.steps
 have ha := hs.reg i.a
 have hb := hs.reg i.b
 have hc := hs.reg i.c
 have hwp := Dp.wrap_word (s.pc + 1)
 unfold Dp.isWord at hwp
 have ho1 : Dp.one false = 0 := rfl
 unfold Dp.isWord at hpc hst ha hb hc
 go_enter Tryz.func89, Tryz.ntmps89
 go_wp2_with (refine Dp.wpList_box_row rfl 74 _ rfl (Dp.stCells s root) rfl ?_)
 intro w1 r1 z1 k1
 go_wp2_with (refine Dp.wpList_box_row rfl 143 _ rfl (Dp.insCells i) rfl ?_)
 intro w2 r2 z2 k2
 go_wp2_with (refine Dp.wpList_alloc_row rfl 74 rfl _ zeroState ?_)
 intro w3 r3 z3 k3
 have rs := (r1.keep k2 (fun e => e)).keep k3 (fun e => e)
 have ri := r2.keep k3 (fun e => e)
 have r3' : Dp.Row w3 (w.heap.size + 1 + 1) 74 ([] ++ Dp.stCells ⟨0, 0, 0, false, [0, 0, 0, 0, 0, 0, 0, 0]⟩ 0 ++ []) := by rw [List.append_nil, List.nil_append]; exact r3
 have kk : Dp.Keeps (fun _ => False) w w3 := (k1.trans k2).trans k3
 obtain ⟨c0, c1, c2, c3⟩ := rs.st
 obtain ⟨io, ia, ib, ic, inn⟩ := ri.insC
 have cra := rs.stReg hs.len i.a hi.a
 have crb := rs.stReg hs.len i.b hi.b
 have crc := rs.stReg hs.len i.c hi.c
 have f0 := rs.frozen 0
 have f1 := rs.frozen 1
 have f2 := rs.frozen 2
 have f3 := rs.frozen 3
 have fr := rs.frozen (4 + i.a.toNat)
 have hia := hi.a
 have hib := hi.b
 have hic := hi.c
 have hin := hi.n
 have hl := hs.len
 have hlm : (Dp.stCells ⟨Dp.wrap (Dp.wrap (s.pc + 1)), Dp.wrap (s.steps + 1), s.code, s.over, s.regs.set i.a.toNat (s.reg i.a)⟩ root).length = 13 := Dp.stCells_length _ _ (by simp [hl])
 have HM : Hid ((Dp.stCells ⟨Dp.wrap (Dp.wrap (s.pc + 1)), Dp.wrap (s.steps + 1), s.code, s.over, s.regs.set i.a.toNat (s.reg i.a)⟩ root).length = 13) := hlm
 clear r1 z1 k1 r2 z2 k2 r3 z3 k3 ri hlm
 go_wp2_with fail
 refine (refWrap _ _).mono ?_
 rintro e w' ⟨rfl, rfl⟩
 go_wp2
 go_quiet ((first | (go_at_call 110; exact Calls.quiet_of_same (refOne _ _)) | (go_at_call 85; exact Calls.quiet_of_same (refWrap _ _))))
 go_wp2_with fail
 refine (refWrap _ _).mono ?_
 rintro e w' ⟨rfl, rfl⟩
 have HR := Hid.mk_ (Dp.tail_row (i := i) (s.reg i.a) (Dp.wrap (Dp.wrap (s.pc + 1))) (Dp.wrap (s.steps + 1)) (rs.drewN nq) hl hia)
 have HR3 := Hid.mk_ (Dp.tail_other (g := w.heap.size) (4 + i.a.toNat) (.int .i64 (s.reg i.a)) (.int .i64 (Dp.wrap (Dp.wrap (s.pc + 1)))) (.int .i64 (Dp.wrap (s.steps + 1))) (r3'.drewN nq) (show w.heap.size + 1 + 1 ≠ w.heap.size by omega))
 go_wp2_with (refine Dp.wpList_load_in rfl 74 _ rfl w.heap.size 0 rfl 74 [] _ [] HR.out rfl _ Tryz.underlying74 rfl (by rw [sizeState, HM.out]) ?_)
 intro _
 go_wp2_with (refine Dp.wpList_store_in rfl 74 _ _ rfl (w.heap.size + 1 + 1) 0 rfl (Dp.stCells ⟨Dp.wrap (Dp.wrap (s.pc + 1)), Dp.wrap (s.steps + 1), s.code, s.over, s.regs.set i.a.toNat (s.reg i.a)⟩ root) rfl 74 [] _ [] HR3.out rfl (by rw [HM.out]; rfl) (by rw [sizeState, HM.out]) (Dp.stCells_one _ _) ?_)
 intro w4 r4 z4 k4
 go_wp2
 have r4' : Dp.Row w4 (w.heap.size + 1 + 1) 74 (Dp.stCells ⟨Dp.wrap (Dp.wrap (s.pc + 1)), Dp.wrap (s.steps + 1), s.code, s.over, s.regs.set i.a.toNat (s.reg i.a)⟩ root) := by simpa using r4
 refine bodyPost_ret (Dp.results_row_tmp rfl _ _ (w.heap.size + 1 + 1) 74 _ _ rfl r4' Tryz.underlying74 rfl (by rw [sizeState, HM.out])) rfl ⟨rfl, ?_⟩
 exact (Dp.tail_keeps _ _ _ _ (kk.drewN nq) (Nat.le_refl _)).next k4 (fun k hk e => by omega)
set_option maxRecDepth 100000 in
set_option maxHeartbeats 1000000 in
theorem refPlain17y (s : Dp.Cs) (root : Int) (i : Dp.Ins) (w : World) (hs : s.Ok) (hi : i.Ok) (hop : i.op = 17) (ht : (decide (s.reg i.a < s.reg i.b)) = true) :
  Calls Tryz.prog 89 #[Dp.stVal s root, Dp.insVal i] w fun e w' => e = .returned (.tuple #[Dp.stVal (Dp.plain s i).1 root, .int .i64 (Dp.plain s i).2]) ∧ Dp.Keeps (fun _ => False) w w' := by
 rw [Dp.plain_form s i (s.reg i.a) (Dp.wrap (Dp.wrap (s.pc + 1) + i.n)) (by rw [hop]; rfl) (by omega) (by omega) (by simp [Dp.aluOf, hop]) (by simp only [Dp.nextOf, hop]; simp only [ht, Dp.one]; simp)]
 have hpc := hs.pc
 have hst := hs.steps
 have ha := hs.reg i.a
 have hb := hs.reg i.b
 have hc := hs.reg i.c
 have hwp := Dp.wrap_word (s.pc + 1)
 unfold Dp.isWord at hwp
 have ho1 : Dp.one true = 1 := rfl
 unfold Dp.isWord at hpc hst ha hb hc
 go_enter Tryz.func89, Tryz.ntmps89
 go_wp2_with (refine Dp.wpList_box_row rfl 74 _ rfl (Dp.stCells s root) rfl ?_)
 intro w1 r1 z1 k1
 go_wp2_with (refine Dp.wpList_box_row rfl 143 _ rfl (Dp.insCells i) rfl ?_)
 intro w2 r2 z2 k2
 go_wp2_with (refine Dp.wpList_alloc_row rfl 74 rfl _ zeroState ?_)
 intro w3 r3 z3 k3
 have rs := (r1.keep k2 (fun e => e)).keep k3 (fun e => e)
 have ri := r2.keep k3 (fun e => e)
 have r3' : Dp.Row w3 (w.heap.size + 1 + 1) 74 ([] ++ Dp.stCells ⟨0, 0, 0, false, [0, 0, 0, 0, 0, 0, 0, 0]⟩ 0 ++ []) := by rw [List.append_nil, List.nil_append]; exact r3
 have kk : Dp.Keeps (fun _ => False) w w3 := (k1.trans k2).trans k3
 obtain ⟨c0, c1, c2, c3⟩ := rs.st
 obtain ⟨io, ia, ib, ic, inn⟩ := ri.insC
 have cra := rs.stReg hs.len i.a hi.a
 have crb := rs.stReg hs.len i.b hi.b
 have crc := rs.stReg hs.len i.c hi.c
 have f0 := rs.frozen 0
 have f1 := rs.frozen 1
 have f2 := rs.frozen 2
 have f3 := rs.frozen 3
 have fr := rs.frozen (4 + i.a.toNat)
 have hia := hi.a
 have hib := hi.b
 have hic := hi.c
 have hin := hi.n
 have hl := hs.len
 have hlm : (Dp.stCells ⟨Dp.wrap (Dp.wrap (s.pc + 1) + i.n), Dp.wrap (s.steps + 1), s.code, s.over, s.regs.set i.a.toNat (s.reg i.a)⟩ root).length = 13 := Dp.stCells_length _ _ (by simp [hl])
 have HM : Hid ((Dp.stCells ⟨Dp.wrap (Dp.wrap (s.pc + 1) + i.n), Dp.wrap (s.steps + 1), s.code, s.over, s.regs.set i.a.toNat (s.reg i.a)⟩ root).length = 13) := hlm
 clear r1 z1 k1 r2 z2 k2 r3 z3 k3 ri hlm
 go_wp2_with fail
 refine (refWrap _ _).mono ?_
 rintro e w' ⟨rfl, rfl⟩
 go_wp2
 go_quiet ((first | (go_at_call 110; exact Calls.quiet_of_same (refOne _ _)) | (go_at_call 85; exact Calls.quiet_of_same (refWrap _ _))))
 go_wp2_with fail
 refine (refWrap _ _).mono ?_
 rintro e w' ⟨rfl, rfl⟩
 have HR := Hid.mk_ (Dp.tail_row (i := i) (s.reg i.a) (Dp.wrap (Dp.wrap (s.pc + 1) + i.n)) (Dp.wrap (s.steps + 1)) (rs.drewN nq) hl hia)
 have HR3 := Hid.mk_ (Dp.tail_other (g := w.heap.size) (4 + i.a.toNat) (.int .i64 (s.reg i.a)) (.int .i64 (Dp.wrap (Dp.wrap (s.pc + 1) + i.n))) (.int .i64 (Dp.wrap (s.steps + 1))) (r3'.drewN nq) (show w.heap.size + 1 + 1 ≠ w.heap.size by omega))
 go_wp2_with (refine Dp.wpList_load_in rfl 74 _ rfl w.heap.size 0 rfl 74 [] _ [] HR.out rfl _ Tryz.underlying74 rfl (by rw [sizeState, HM.out]) ?_)
 intro _
 go_wp2_with (refine Dp.wpList_store_in rfl 74 _ _ rfl (w.heap.size + 1 + 1) 0 rfl (Dp.stCells ⟨Dp.wrap (Dp.wrap (s.pc + 1) + i.n), Dp.wrap (s.steps + 1), s.code, s.over, s.regs.set i.a.toNat (s.reg i.a)⟩ root) rfl 74 [] _ [] HR3.out rfl (by rw [HM.out]; rfl) (by rw [sizeState, HM.out]) (Dp.stCells_one _ _) ?_)
 intro w4 r4 z4 k4
 go_wp2
 have r4' : Dp.Row w4 (w.heap.size + 1 + 1) 74 (Dp.stCells ⟨Dp.wrap (Dp.wrap (s.pc + 1) + i.n), Dp.wrap (s.steps + 1), s.code, s.over, s.regs.set i.a.toNat (s.reg i.a)⟩ root) := by simpa using r4
 refine bodyPost_ret (Dp.results_row_tmp rfl _ _ (w.heap.size + 1 + 1) 74 _ _ rfl r4' Tryz.underlying74 rfl (by rw [sizeState, HM.out])) rfl ⟨rfl, ?_⟩
 exact (Dp.tail_keeps _ _ _ _ (kk.drewN nq) (Nat.le_refl _)).next k4 (fun k hk e => by omega)
set_option maxRecDepth 100000 in
set_option maxHeartbeats 1000000 in
theorem refPlain17n (s : Dp.Cs) (root : Int) (i : Dp.Ins) (w : World) (hs : s.Ok) (hi : i.Ok) (hop : i.op = 17) (ht : (decide (s.reg i.a < s.reg i.b)) = false) :
  Calls Tryz.prog 89 #[Dp.stVal s root, Dp.insVal i] w fun e w' => e = .returned (.tuple #[Dp.stVal (Dp.plain s i).1 root, .int .i64 (Dp.plain s i).2]) ∧ Dp.Keeps (fun _ => False) w w' := by
 rw [Dp.plain_form s i (s.reg i.a) (Dp.wrap (Dp.wrap (s.pc + 1))) (by rw [hop]; rfl) (by omega) (by omega) (by simp [Dp.aluOf, hop]) (by simp only [Dp.nextOf, hop]; simp only [ht, Dp.one]; simp)]
 have hpc := hs.pc
 have hst := hs.steps
 have ha := hs.reg i.a
 have hb := hs.reg i.b
 have hc := hs.reg i.c
 have hwp := Dp.wrap_word (s.pc + 1)
 unfold Dp.isWord at hwp
 have ho1 : Dp.one false = 0 := rfl
 unfold Dp.isWord at hpc hst ha hb hc
 go_enter Tryz.func89, Tryz.ntmps89
 go_wp2_with (refine Dp.wpList_box_row rfl 74 _ rfl (Dp.stCells s root) rfl ?_)
 intro w1 r1 z1 k1
 go_wp2_with (refine Dp.wpList_box_row rfl 143 _ rfl (Dp.insCells i) rfl ?_)
 intro w2 r2 z2 k2
 go_wp2_with (refine Dp.wpList_alloc_row rfl 74 rfl _ zeroState ?_)
 intro w3 r3 z3 k3
 have rs := (r1.keep k2 (fun e => e)).keep k3 (fun e => e)
 have ri := r2.keep k3 (fun e => e)
 have r3' : Dp.Row w3 (w.heap.size + 1 + 1) 74 ([] ++ Dp.stCells ⟨0, 0, 0, false, [0, 0, 0, 0, 0, 0, 0, 0]⟩ 0 ++ []) := by rw [List.append_nil, List.nil_append]; exact r3
 have kk : Dp.Keeps (fun _ => False) w w3 := (k1.trans k2).trans k3
 obtain ⟨c0, c1, c2, c3⟩ := rs.st
 obtain ⟨io, ia, ib, ic, inn⟩ := ri.insC
 have cra := rs.stReg hs.len i.a hi.a
 have crb := rs.stReg hs.len i.b hi.b
 have crc := rs.stReg hs.len i.c hi.c
 have f0 := rs.frozen 0
 have f1 := rs.frozen 1
 have f2 := rs.frozen 2
 have f3 := rs.frozen 3
 have fr := rs.frozen (4 + i.a.toNat)
 have hia := hi.a
 have hib := hi.b
 have hic := hi.c
 have hin := hi.n
 have hl := hs.len
 have hlm : (Dp.stCells ⟨Dp.wrap (Dp.wrap (s.pc + 1)), Dp.wrap (s.steps + 1), s.code, s.over, s.regs.set i.a.toNat (s.reg i.a)⟩ root).length = 13 := Dp.stCells_length _ _ (by simp [hl])
 have HM : Hid ((Dp.stCells ⟨Dp.wrap (Dp.wrap (s.pc + 1)), Dp.wrap (s.steps + 1), s.code, s.over, s.regs.set i.a.toNat (s.reg i.a)⟩ root).length = 13) := hlm
 clear r1 z1 k1 r2 z2 k2 r3 z3 k3 ri hlm
 go_wp2_with fail
 refine (refWrap _ _).mono ?_
 rintro e w' ⟨rfl, rfl⟩
 go_wp2
 go_quiet ((first | (go_at_call 110; exact Calls.quiet_of_same (refOne _ _)) | (go_at_call 85; exact Calls.quiet_of_same (refWrap _ _))))
 go_wp2_with fail
 refine (refWrap _ _).mono ?_
 rintro e w' ⟨rfl, rfl⟩
 have HR := Hid.mk_ (Dp.tail_row (i := i) (s.reg i.a) (Dp.wrap (Dp.wrap (s.pc + 1))) (Dp.wrap (s.steps + 1)) (rs.drewN nq) hl hia)
 have HR3 := Hid.mk_ (Dp.tail_other (g := w.heap.size) (4 + i.a.toNat) (.int .i64 (s.reg i.a)) (.int .i64 (Dp.wrap (Dp.wrap (s.pc + 1)))) (.int .i64 (Dp.wrap (s.steps + 1))) (r3'.drewN nq) (show w.heap.size + 1 + 1 ≠ w.heap.size by omega))
 go_wp2_with (refine Dp.wpList_load_in rfl 74 _ rfl w.heap.size 0 rfl 74 [] _ [] HR.out rfl _ Tryz.underlying74 rfl (by rw [sizeState, HM.out]) ?_)
 intro _
 go_wp2_with (refine Dp.wpList_store_in rfl 74 _ _ rfl (w.heap.size + 1 + 1) 0 rfl (Dp.stCells ⟨Dp.wrap (Dp.wrap (s.pc + 1)), Dp.wrap (s.steps + 1), s.code, s.over, s.regs.set i.a.toNat (s.reg i.a)⟩ root) rfl 74 [] _ [] HR3.out rfl (by rw [HM.out]; rfl) (by rw [sizeState, HM.out]) (Dp.stCells_one _ _) ?_)
 intro w4 r4 z4 k4
 go_wp2
 have r4' : Dp.Row w4 (w.heap.size + 1 + 1) 74 (Dp.stCells ⟨Dp.wrap (Dp.wrap (s.pc + 1)), Dp.wrap (s.steps + 1), s.code, s.over, s.regs.set i.a.toNat (s.reg i.a)⟩ root) := by simpa using r4
 refine bodyPost_ret (Dp.results_row_tmp rfl _ _ (w.heap.size + 1 + 1) 74 _ _ rfl r4' Tryz.underlying74 rfl (by rw [sizeState, HM.out])) rfl ⟨rfl, ?_⟩
 exact (Dp.tail_keeps _ _ _ _ (kk.drewN nq) (Nat.le_refl _)).next k4 (fun k hk e => by omega)
set_option maxRecDepth 100000 in
set_option maxHeartbeats 1000000 in
theorem refPlain0 (s : Dp.Cs) (root : Int) (i : Dp.Ins) (w : World) (hs : s.Ok) (hi : i.Ok) (hop : i.op = 0) :
  Calls Tryz.prog 89 #[Dp.stVal s root, Dp.insVal i] w fun e w' => e = .returned (.tuple #[Dp.stVal (Dp.plain s i).1 root, .int .i64 (Dp.plain s i).2]) ∧ Dp.Keeps (fun _ => False) w w' := by
 rw [Dp.plain_halt s i hop]
 have hpc := hs.pc
 have hst := hs.steps
 have ha := hs.reg i.a
 have hb := hs.reg i.b
 have hc := hs.reg i.c
 unfold Dp.isWord at hpc hst ha hb hc
 go_enter Tryz.func89, Tryz.ntmps89
 go_wp2_with (refine Dp.wpList_box_row rfl 74 _ rfl (Dp.stCells s root) rfl ?_)
 intro w1 r1 z1 k1
 go_wp2_with (refine Dp.wpList_box_row rfl 143 _ rfl (Dp.insCells i) rfl ?_)
 intro w2 r2 z2 k2
 go_wp2_with (refine Dp.wpList_alloc_row rfl 74 rfl _ zeroState ?_)
 intro w3 r3 z3 k3
 have rs := (r1.keep k2 (fun e => e)).keep k3 (fun e => e)
 have ri := r2.keep k3 (fun e => e)
 have r3' : Dp.Row w3 (w.heap.size + 1 + 1) 74 ([] ++ Dp.stCells ⟨0, 0, 0, false, [0, 0, 0, 0, 0, 0, 0, 0]⟩ 0 ++ []) := by rw [List.append_nil, List.nil_append]; exact r3
 have kk : Dp.Keeps (fun _ => False) w w3 := (k1.trans k2).trans k3
 obtain ⟨c0, c1, c2, c3⟩ := rs.st
 obtain ⟨io, ia, ib, ic, inn⟩ := ri.insC
 have cra := rs.stReg hs.len i.a hi.a
 have crb := rs.stReg hs.len i.b hi.b
 have crc := rs.stReg hs.len i.c hi.c
 have f0 := rs.frozen 0
 have f1 := rs.frozen 1
 have f2 := rs.frozen 2
 have f3 := rs.frozen 3
 have fr := rs.frozen (4 + i.a.toNat)
 have hia := hi.a
 have hib := hi.b
 have hic := hi.c
 have hin := hi.n
 have hl := hs.len
 have hlm : (Dp.stCells ⟨s.pc, Dp.wrap (s.steps + 1), s.reg i.a, true, s.regs.set i.a.toNat (s.reg i.a)⟩ root).length = 13 := Dp.stCells_length _ _ (by simp [hl])
 have HM : Hid ((Dp.stCells ⟨s.pc, Dp.wrap (s.steps + 1), s.reg i.a, true, s.regs.set i.a.toNat (s.reg i.a)⟩ root).length = 13) := hlm
 clear r1 z1 k1 r2 z2 k2 r3 z3 k3 ri hlm
 go_wp2_with fail
 refine (refWrap _ _).mono ?_
 rintro e w' ⟨rfl, rfl⟩
 go_wp2_with fail
 refine (refWrap _ _).mono ?_
 rintro e wq ⟨rfl, hq⟩
 have RQ : Dp.Row wq w.heap.size 74 (Dp.stCells ⟨s.pc, s.steps, s.reg i.a, true, s.regs.set i.a.toNat (s.reg i.a)⟩ root) := by
  rw [hq]; exact Dp.halt_head (s.reg i.a) (s.reg i.a) s.pc rs hl hia
 have R3Q : Dp.Row wq (w.heap.size + 1 + 1) 74 ([] ++ Dp.stCells ⟨0, 0, 0, false, [0, 0, 0, 0, 0, 0, 0, 0]⟩ 0 ++ []) := by
  have hne : w.heap.size + 1 + 1 ≠ w.heap.size := by omega
  rw [hq]; exact (((r3'.setOther _ _ hne).setOther _ _ hne).setOther _ _ hne).setOther _ _ hne
 have KQ : Dp.Keeps (fun _ => False) w wq := by
  rw [hq]; exact (((kk.setCell (.inl (Nat.le_refl _)) _).setCell (.inl (Nat.le_refl _)) _).setCell (.inl (Nat.le_refl _)) _).setCell (.inl (Nat.le_refl _)) _
 clear hq c0 c1 c2 c3 io ia ib ic inn cra crb crc f0 f1 f2 f3 fr rs r3' kk
 obtain ⟨_, c1, _, _⟩ := RQ.st
 have f1 := RQ.frozen 1
 have HR := Hid.mk_ (Dp.row_nil (RQ.set 1 (.int .i64 (Dp.wrap (s.steps + 1)))))
 have HR3 := Hid.mk_ (R3Q.setOther ⟨w.heap.size, 1, none⟩ (.int .i64 (Dp.wrap (s.steps + 1))) (show w.heap.size + 1 + 1 ≠ w.heap.size by omega))
 have HR : Hid (Dp.Row (wq.setCell ⟨w.heap.size, 1, none⟩ (.int .i64 (Dp.wrap (s.steps + 1)))) w.heap.size 74 ([] ++ Dp.stCells ⟨s.pc, Dp.wrap (s.steps + 1), s.reg i.a, true, s.regs.set i.a.toNat (s.reg i.a)⟩ root ++ [])) := HR
 go_wp2_with (refine Dp.wpList_load_in rfl 74 _ rfl w.heap.size 0 rfl 74 [] _ [] HR.out rfl _ Tryz.underlying74 rfl (by rw [sizeState, HM.out]) ?_)
 intro _
 go_wp2_with (refine Dp.wpList_store_in rfl 74 _ _ rfl (w.heap.size + 1 + 1) 0 rfl (Dp.stCells ⟨s.pc, Dp.wrap (s.steps + 1), s.reg i.a, true, s.regs.set i.a.toNat (s.reg i.a)⟩ root) rfl 74 [] _ [] HR3.out rfl (by rw [HM.out]; rfl) (by rw [sizeState, HM.out]) (Dp.stCells_one _ _) ?_)
 intro w4 r4 z4 k4
 go_wp2
 have r4' : Dp.Row w4 (w.heap.size + 1 + 1) 74 (Dp.stCells ⟨s.pc, Dp.wrap (s.steps + 1), s.reg i.a, true, s.regs.set i.a.toNat (s.reg i.a)⟩ root) := by simpa using r4
 refine bodyPost_ret (Dp.results_row_tmp rfl _ _ (w.heap.size + 1 + 1) 74 _ _ rfl r4' Tryz.underlying74 rfl (by rw [sizeState, HM.out])) rfl ⟨rfl, ?_⟩
 exact (KQ.setCell (p := ⟨w.heap.size, 1, none⟩) (.inl (Nat.le_refl _)) _).next k4 (fun k hk e => by omega)
set_option maxRecDepth 100000 in
set_option maxHeartbeats 1000000 in
theorem refPlain18 (s : Dp.Cs) (root : Int) (i : Dp.Ins) (w : World) (hs : s.Ok) (hi : i.Ok) (hop : i.op = 18) :
  Calls Tryz.prog 89 #[Dp.stVal s root, Dp.insVal i] w fun e w' => e = .returned (.tuple #[Dp.stVal (Dp.plain s i).1 root, .int .i64 (Dp.plain s i).2]) ∧ Dp.Keeps (fun _ => False) w w' := by
 rw [Dp.plain_form s i (Dp.wrap (s.pc + 1)) (Dp.wrap (s.reg i.b + i.n)) (by rw [hop]; rfl) (by omega) (by omega) (by simp [Dp.aluOf, hop]) (by simp [Dp.nextOf, hop])]
 have hpc := hs.pc
 have hst := hs.steps
 have ha := hs.reg i.a
 have hb := hs.reg i.b
 have hc := hs.reg i.c
 unfold Dp.isWord at hpc hst ha hb hc
 go_enter Tryz.func89, Tryz.ntmps89
 go_wp2_with (refine Dp.wpList_box_row rfl 74 _ rfl (Dp.stCells s root) rfl ?_)
 intro w1 r1 z1 k1
 go_wp2_with (refine Dp.wpList_box_row rfl 143 _ rfl (Dp.insCells i) rfl ?_)
 intro w2 r2 z2 k2
 go_wp2_with (refine Dp.wpList_alloc_row rfl 74 rfl _ zeroState ?_)
 intro w3 r3 z3 k3
 have rs := (r1.keep k2 (fun e => e)).keep k3 (fun e => e)
 have ri := r2.keep k3 (fun e => e)
 have r3' : Dp.Row w3 (w.heap.size + 1 + 1) 74 ([] ++ Dp.stCells ⟨0, 0, 0, false, [0, 0, 0, 0, 0, 0, 0, 0]⟩ 0 ++ []) := by rw [List.append_nil, List.nil_append]; exact r3
 have kk : Dp.Keeps (fun _ => False) w w3 := (k1.trans k2).trans k3
 obtain ⟨c0, c1, c2, c3⟩ := rs.st
 obtain ⟨io, ia, ib, ic, inn⟩ := ri.insC
 have cra := rs.stReg hs.len i.a hi.a
 have crb := rs.stReg hs.len i.b hi.b
 have crc := rs.stReg hs.len i.c hi.c
 have f0 := rs.frozen 0
 have f1 := rs.frozen 1
 have f2 := rs.frozen 2
 have f3 := rs.frozen 3
 have fr := rs.frozen (4 + i.a.toNat)
 have hia := hi.a
 have hib := hi.b
 have hic := hi.c
 have hin := hi.n
 have hl := hs.len
 have hlm : (Dp.stCells ⟨Dp.wrap (s.reg i.b + i.n), Dp.wrap (s.steps + 1), s.code, s.over, s.regs.set i.a.toNat (Dp.wrap (s.pc + 1))⟩ root).length = 13 := Dp.stCells_length _ _ (by simp [hl])
 have HM : Hid ((Dp.stCells ⟨Dp.wrap (s.reg i.b + i.n), Dp.wrap (s.steps + 1), s.code, s.over, s.regs.set i.a.toNat (Dp.wrap (s.pc + 1))⟩ root).length = 13) := hlm
 clear r1 z1 k1 r2 z2 k2 r3 z3 k3 ri hlm
 go_wp2_with fail
 refine (refWrap _ _).mono ?_
 rintro e w' ⟨rfl, rfl⟩
 go_wp2_with fail
 refine (refWrap _ _).mono ?_
 rintro e w' ⟨rfl, rfl⟩
 go_wp2_with fail
 refine (refWrap _ _).mono ?_
 rintro e w' ⟨rfl, rfl⟩
 have HR := Hid.mk_ (Dp.tail_row (i := i) (Dp.wrap (s.pc + 1)) (Dp.wrap (s.reg i.b + i.n)) (Dp.wrap (s.steps + 1)) rs hl hia)
 have HR3 := Hid.mk_ (Dp.tail_other (g := w.heap.size) (4 + i.a.toNat) (.int .i64 (Dp.wrap (s.pc + 1))) (.int .i64 (Dp.wrap (s.reg i.b + i.n))) (.int .i64 (Dp.wrap (s.steps + 1))) r3' (show w.heap.size + 1 + 1 ≠ w.heap.size by omega))
 go_wp2_with (refine Dp.wpList_load_in rfl 74 _ rfl w.heap.size 0 rfl 74 [] _ [] HR.out rfl _ Tryz.underlying74 rfl (by rw [sizeState, HM.out]) ?_)
 intro _
 go_wp2_with (refine Dp.wpList_store_in rfl 74 _ _ rfl (w.heap.size + 1 + 1) 0 rfl (Dp.stCells ⟨Dp.wrap (s.reg i.b + i.n), Dp.wrap (s.steps + 1), s.code, s.over, s.regs.set i.a.toNat (Dp.wrap (s.pc + 1))⟩ root) rfl 74 [] _ [] HR3.out rfl (by rw [HM.out]; rfl) (by rw [sizeState, HM.out]) (Dp.stCells_one _ _) ?_)
 intro w4 r4 z4 k4
 go_wp2
 have r4' : Dp.Row w4 (w.heap.size + 1 + 1) 74 (Dp.stCells ⟨Dp.wrap (s.reg i.b + i.n), Dp.wrap (s.steps + 1), s.code, s.over, s.regs.set i.a.toNat (Dp.wrap (s.pc + 1))⟩ root) := by simpa using r4
 refine bodyPost_ret (Dp.results_row_tmp rfl _ _ (w.heap.size + 1 + 1) 74 _ _ rfl r4' Tryz.underlying74 rfl (by rw [sizeState, HM.out])) rfl ⟨rfl, ?_⟩
 exact (Dp.tail_keeps _ _ _ _ kk (Nat.le_refl _)).next k4 (fun k hk e => by omega)
set_option maxRecDepth 100000 in
set_option maxHeartbeats 1000000 in
theorem refPlainD (s : Dp.Cs) (root : Int) (i : Dp.Ins) (w : World) (hs : s.Ok) (hi : i.Ok) (hop : i.op = 10) (hc0 : s.reg i.c = 0) :
  Calls Tryz.prog 89 #[Dp.stVal s root, Dp.insVal i] w fun e w' => e = .returned (.tuple #[Dp.stVal (Dp.plain s i).1 root, .int .i64 (Dp.plain s i).2]) ∧ Dp.Keeps (fun _ => False) w w' := by
 rw [Dp.plain_div s i hop hc0]
 have hpc := hs.pc
 have hst := hs.steps
 have ha := hs.reg i.a
 have hb := hs.reg i.b
 have hc := hs.reg i.c
 unfold Dp.isWord at hpc hst ha hb hc
 have hcz : (s.reg i.c == 0) = true := by simpa using hc0
 go_enter Tryz.func89, Tryz.ntmps89
 go_wp2_with (refine Dp.wpList_box_row rfl 74 _ rfl (Dp.stCells s root) rfl ?_)
 intro w1 r1 z1 k1
 go_wp2_with (refine Dp.wpList_box_row rfl 143 _ rfl (Dp.insCells i) rfl ?_)
 intro w2 r2 z2 k2
 go_wp2_with (refine Dp.wpList_alloc_row rfl 74 rfl _ zeroState ?_)
 intro w3 r3 z3 k3
 have rs := (r1.keep k2 (fun e => e)).keep k3 (fun e => e)
 have ri := r2.keep k3 (fun e => e)
 have r3' : Dp.Row w3 (w.heap.size + 1 + 1) 74 ([] ++ Dp.stCells ⟨0, 0, 0, false, [0, 0, 0, 0, 0, 0, 0, 0]⟩ 0 ++ []) := by rw [List.append_nil, List.nil_append]; exact r3
 have kk : Dp.Keeps (fun _ => False) w w3 := (k1.trans k2).trans k3
 obtain ⟨c0, c1, c2, c3⟩ := rs.st
 obtain ⟨io, ia, ib, ic, inn⟩ := ri.insC
 have cra := rs.stReg hs.len i.a hi.a
 have crb := rs.stReg hs.len i.b hi.b
 have crc := rs.stReg hs.len i.c hi.c
 have f0 := rs.frozen 0
 have f1 := rs.frozen 1
 have f2 := rs.frozen 2
 have f3 := rs.frozen 3
 have fr := rs.frozen (4 + i.a.toNat)
 have hia := hi.a
 have hib := hi.b
 have hic := hi.c
 have hin := hi.n
 have hl := hs.len
 have hlm : (Dp.stCells s root).length = 13 := Dp.stCells_length _ _ hl
 have HM : Hid ((Dp.stCells s root).length = 13) := hlm
 clear r1 z1 k1 r2 z2 k2 r3 z3 k3 ri hlm
 go_wp2_with fail
 refine (refWrap _ _).mono ?_
 rintro e w' ⟨rfl, rfl⟩
 have HR := Hid.mk_ (Dp.row_nil rs)
 have HR3 := Hid.mk_ r3'
 go_wp2_with (refine Dp.wpList_load_in rfl 74 _ rfl w.heap.size 0 rfl 74 [] _ [] HR.out rfl _ Tryz.underlying74 rfl (by rw [sizeState, HM.out]) ?_)
 intro _
 go_wp2_with (refine Dp.wpList_store_in rfl 74 _ _ rfl (w.heap.size + 1 + 1) 0 rfl (Dp.stCells s root) rfl 74 [] _ [] HR3.out rfl (by rw [HM.out]; rfl) (by rw [sizeState, HM.out]) (Dp.stCells_one _ _) ?_)
 intro w4 r4 z4 k4
 go_wp2
 have r4' : Dp.Row w4 (w.heap.size + 1 + 1) 74 (Dp.stCells s root) := by simpa using r4
 refine bodyPost_ret (Dp.results_row_tmp rfl _ _ (w.heap.size + 1 + 1) 74 _ _ rfl r4' Tryz.underlying74 rfl (by rw [sizeState, HM.out])) rfl ⟨rfl, ?_⟩
 exact kk.next k4 (fun k hk e => by omega)
set_option maxRecDepth 100000 in
set_option maxHeartbeats 1000000 in
theorem refPlainE (s : Dp.Cs) (root : Int) (i : Dp.Ins) (w : World) (hs : s.Ok) (hi : i.Ok) (hop : i.op = 13 ∨ i.op = 14 ∨ 19 ≤ i.op) :
  Calls Tryz.prog 89 #[Dp.stVal s root, Dp.insVal i] w fun e w' => e = .returned (.tuple #[Dp.stVal (Dp.plain s i).1 root, .int .i64 (Dp.plain s i).2]) ∧ Dp.Keeps (fun _ => False) w w' := by
 rw [Dp.plain_err s i hop]
 have hpc := hs.pc
 have hst := hs.steps
 have ha := hs.reg i.a
 have hb := hs.reg i.b
 have hc := hs.reg i.c
 unfold Dp.isWord at hpc hst ha hb hc
 have n0 : (i.op == 0) = false := by rw [beq_eq_false_iff_ne]; omega
 have n1 : (i.op == 1) = false := by rw [beq_eq_false_iff_ne]; omega
 have n2 : (i.op == 2) = false := by rw [beq_eq_false_iff_ne]; omega
 have n3 : (i.op == 3) = false := by rw [beq_eq_false_iff_ne]; omega
 have n4 : (i.op == 4) = false := by rw [beq_eq_false_iff_ne]; omega
 have n5 : (i.op == 5) = false := by rw [beq_eq_false_iff_ne]; omega
 have n6 : (i.op == 6) = false := by rw [beq_eq_false_iff_ne]; omega
 have n7 : (i.op == 7) = false := by rw [beq_eq_false_iff_ne]; omega
 have n8 : (i.op == 8) = false := by rw [beq_eq_false_iff_ne]; omega
 have n9 : (i.op == 9) = false := by rw [beq_eq_false_iff_ne]; omega
 have n10 : (i.op == 10) = false := by rw [beq_eq_false_iff_ne]; omega
 have n11 : (i.op == 11) = false := by rw [beq_eq_false_iff_ne]; omega
 have n12 : (i.op == 12) = false := by rw [beq_eq_false_iff_ne]; omega
 have n15 : (i.op == 15) = false := by rw [beq_eq_false_iff_ne]; omega
 have n16 : (i.op == 16) = false := by rw [beq_eq_false_iff_ne]; omega
 have n17 : (i.op == 17) = false := by rw [beq_eq_false_iff_ne]; omega
 have n18 : (i.op == 18) = false := by rw [beq_eq_false_iff_ne]; omega
 clear hop
 go_enter Tryz.func89, Tryz.ntmps89
 go_wp2_with (refine Dp.wpList_box_row rfl 74 _ rfl (Dp.stCells s root) rfl ?_)
 intro w1 r1 z1 k1
 go_wp2_with (refine Dp.wpList_box_row rfl 143 _ rfl (Dp.insCells i) rfl ?_)
 intro w2 r2 z2 k2
 go_wp2_with (refine Dp.wpList_alloc_row rfl 74 rfl _ zeroState ?_)
 intro w3 r3 z3 k3
 have rs := (r1.keep k2 (fun e => e)).keep k3 (fun e => e)
 have ri := r2.keep k3 (fun e => e)
 have r3' : Dp.Row w3 (w.heap.size + 1 + 1) 74 ([] ++ Dp.stCells ⟨0, 0, 0, false, [0, 0, 0, 0, 0, 0, 0, 0]⟩ 0 ++ []) := by rw [List.append_nil, List.nil_append]; exact r3
 have kk : Dp.Keeps (fun _ => False) w w3 := (k1.trans k2).trans k3
 obtain ⟨c0, c1, c2, c3⟩ := rs.st
 obtain ⟨io, ia, ib, ic, inn⟩ := ri.insC
 have cra := rs.stReg hs.len i.a hi.a
 have crb := rs.stReg hs.len i.b hi.b
 have crc := rs.stReg hs.len i.c hi.c
 have f0 := rs.frozen 0
 have f1 := rs.frozen 1
 have f2 := rs.frozen 2
 have f3 := rs.frozen 3
 have fr := rs.frozen (4 + i.a.toNat)
 have hia := hi.a
 have hib := hi.b
 have hic := hi.c
 have hin := hi.n
 have hl := hs.len
 have hlm : (Dp.stCells s root).length = 13 := Dp.stCells_length _ _ hl
 have HM : Hid ((Dp.stCells s root).length = 13) := hlm
 clear r1 z1 k1 r2 z2 k2 r3 z3 k3 ri hlm
 go_wp2_with fail
 refine (refWrap _ _).mono ?_
 rintro e w' ⟨rfl, rfl⟩
 have HR := Hid.mk_ (Dp.row_nil rs)
 have HR3 := Hid.mk_ r3'
 go_wp2_with (refine Dp.wpList_load_in rfl 74 _ rfl w.heap.size 0 rfl 74 [] _ [] HR.out rfl _ Tryz.underlying74 rfl (by rw [sizeState, HM.out]) ?_)
 intro _
 go_wp2_with (refine Dp.wpList_store_in rfl 74 _ _ rfl (w.heap.size + 1 + 1) 0 rfl (Dp.stCells s root) rfl 74 [] _ [] HR3.out rfl (by rw [HM.out]; rfl) (by rw [sizeState, HM.out]) (Dp.stCells_one _ _) ?_)
 intro w4 r4 z4 k4
 go_wp2
 have r4' : Dp.Row w4 (w.heap.size + 1 + 1) 74 (Dp.stCells s root) := by simpa using r4
 refine bodyPost_ret (Dp.results_row_tmp rfl _ _ (w.heap.size + 1 + 1) 74 _ _ rfl r4' Tryz.underlying74 rfl (by rw [sizeState, HM.out])) rfl ⟨rfl, ?_⟩
 exact kk.next k4 (fun k hk e => by omega)
end Go.Proofs.YtdipojfngdceoaaGreatDoor

namespace Go.Proofs.YtdipojfngdceoaaGreatDoor
theorem refPlain (s : Dp.Cs) (root : Int) (i : Dp.Ins) (w : World) (hs : s.Ok) (hi : i.Ok) :
  Calls Tryz.prog 89 #[Dp.stVal s root, Dp.insVal i] w fun e w' => e = .returned (.tuple #[Dp.stVal (Dp.plain s i).1 root, .int .i64 (Dp.plain s i).2]) ∧ Dp.Keeps (fun _ => False) w w' := by
 have ho := hi.op
 by_cases hE : i.op = 13 ∨ i.op = 14 ∨ 19 ≤ i.op
 ·exact refPlainE s root i w hs hi hE
 rcases (show i.op = 0 ∨ i.op = 1 ∨ i.op = 2 ∨ i.op = 3 ∨ i.op = 4 ∨ i.op = 5 ∨ i.op = 6 ∨ i.op = 7 ∨ i.op = 8 ∨ i.op = 9 ∨ i.op = 10 ∨ i.op = 11 ∨ i.op = 12 ∨ i.op = 15 ∨ i.op = 16 ∨ i.op = 17 ∨ i.op = 18 by omega) with h | h | h | h | h | h | h | h | h | h | h | h | h | h | h | h | h
 ·exact refPlain0 s root i w hs hi h
 ·exact refPlain1 s root i w hs hi h
 ·exact refPlain2 s root i w hs hi h
 ·exact refPlain3 s root i w hs hi h
 ·exact refPlain4 s root i w hs hi h
 ·exact refPlain5 s root i w hs hi h
 ·exact refPlain6 s root i w hs hi h
 ·exact refPlain7 s root i w hs hi h
 ·exact refPlain8 s root i w hs hi h
 ·exact refPlain9 s root i w hs hi h
 ·by_cases hc : s.reg i.c = 0
  ·exact refPlainD s root i w hs hi h hc
  ·exact refPlain10 s root i w hs hi h hc
 ·exact refPlain11 s root i w hs hi h
 ·exact refPlain12 s root i w hs hi h
 ·cases ht : (s.reg i.a == s.reg i.b) with
  | true => exact refPlain15y s root i w hs hi h ht
  | false => exact refPlain15n s root i w hs hi h ht
 ·cases ht : (s.reg i.a != s.reg i.b) with
  | true => exact refPlain16y s root i w hs hi h ht
  | false => exact refPlain16n s root i w hs hi h ht
 ·cases ht : decide (s.reg i.a < s.reg i.b) with
  | true => exact refPlain17y s root i w hs hi h ht
  | false => exact refPlain17n s root i w hs hi h ht
 ·exact refPlain18 s root i w hs hi h
end Go.Proofs.YtdipojfngdceoaaGreatDoor

namespace Go.Proofs.YtdipojfngdceoaaGreatDoor
open Go.RowKit
attribute [local go_sem ↓] Go.wp_at_zero Go.wp_at_succ
theorem Dp.Keeps.cells {w w' : World} (k : Dp.Keeps (fun _ => False) w w') : (∀ b o, b < w.heap.size → w'.cell? ⟨b, o, none⟩ = w.cell? ⟨b, o, none⟩) ∧ (∀ b o, b < w.heap.size → w'.frozen? ⟨b, o, none⟩ = w.frozen? ⟨b, o, none⟩) :=
 ⟨fun b _ h => World.cell?_of_block (k.block b h (fun e => e)), fun b _ h => World.frozen?_of_block (k.block b h (fun e => e))⟩
theorem Dp.Keeps.set5 {S : Nat → Prop} {a w : World} (h : Dp.Keeps S a w) {g : Nat} (hg : a.heap.size ≤ g) (v0 v1 v2 v3 v4 : Value) : Dp.Keeps S a (((((w.setCell ⟨g, 0, none⟩ v0).setCell ⟨g, 1, none⟩ v1).setCell ⟨g, 2, none⟩ v2).setCell ⟨g, 3, none⟩ v3).setCell ⟨g, 4, none⟩ v4) :=
 ((((h.setCell (.inl hg) _).setCell (.inl hg) _).setCell (.inl hg) _).setCell (.inl hg) _).setCell (.inl hg) _
theorem refDecodeX (n : Int) (i : Dp.Ins) (w : World) (h : Dp.isWord n) (hi : Dp.decode n = i) :
  Calls Tryz.prog 84 #[.int .i64 n] w fun e w' => e = .returned (.agg #[.int .i64 i.op, .int .i64 i.a, .int .i64 i.b, .int .i64 i.c, .int .i64 i.n]) ∧ Dp.Keeps (fun _ => False) w w' := by
 subst hi; exact refDecode n w h
theorem refMovedX (s : Dp.Cs) (root : Int) (i : Dp.Ins) (v : Int) (load : Bool) (w : World) (hs : s.Ok) (hi : i.Ok) :
  Calls Tryz.prog 86 #[.agg (Dp.stCells s root).toArray, .agg #[.int .i64 i.op, .int .i64 i.a, .int .i64 i.b, .int .i64 i.c, .int .i64 i.n], .int .i64 v, .bool load] w fun e w' => e = .returned (.agg (Dp.stCells (Dp.moved s i v load) root).toArray) ∧ Dp.Keeps (fun _ => False) w w' :=
 refMoved s root i v load w hs hi
theorem refPlainX (s : Dp.Cs) (root : Int) (i : Dp.Ins) (w : World) (hs : s.Ok) (hi : i.Ok) :
  Calls Tryz.prog 89 #[.agg (Dp.stCells s root).toArray, .agg #[.int .i64 i.op, .int .i64 i.a, .int .i64 i.b, .int .i64 i.c, .int .i64 i.n]] w fun e w' => e = .returned (.tuple #[.agg (Dp.stCells (Dp.plain s i).1 root).toArray, .int .i64 (Dp.plain s i).2]) ∧ Dp.Keeps (fun _ => False) w w' :=
 refPlain s root i w hs hi
namespace Dp
theorem moved_ok {s : Cs} (h : s.Ok) (i : Ins) (v : Int) (load : Bool) (hv : isWord v) : (moved s i v load).Ok := by
 refine ⟨wrap_word _, wrap_word _, h.code, ?_, ?_⟩
 ·unfold moved; cases load <;> simp [h.len]
 ·cases load with
  | true => exact (h.put i.a v hv).regs
  | false => exact h.regs
theorem bits_word (op x y : Int) (hx : isWord x) (hy : isWord y) (hop : op = 4 ∨ op = 5 ∨ op = 6) : isWord (bits op x y) := by
 have h := bitsTo_all op x y hx hy hop
 have h2 := bitsTo_lt op x.toNat y.toNat 32
 rw [← h]
 unfold isWord
 omega
theorem alu_word {s : Cs} (h : s.Ok) (i : Ins) : isWord (aluOf s i) := by
 have hb := h.reg i.b
 have hc := h.reg i.c
 have ha := h.reg i.a
 unfold aluOf
 simp only
 split; exact wrap_word _
 split; exact wrap_word _
 split; exact wrap_word _
 split
 ·rename_i hop; exact bits_word _ _ _ hb hc hop
 split
 ·have := shlTo_word (s.reg i.b) (s.reg i.c % 32).toNat
  unfold shlTo at this; unfold shl; simpa using this
 split
 ·have := shrTo_word (s.reg i.b) hb (s.reg i.c % 32).toNat
  unfold shrTo at this; unfold shr; simpa using this
 split
 ·unfold one isWord; split <;> omega
 split
 ·unfold isWord at *
  refine ⟨Int.ediv_nonneg hb.1 hc.1, ?_⟩
  have := Int.ediv_le_self (s.reg i.c) hb.1
  omega
 split; exact wrap_word _
 split; exact wrap_word _
 split; exact wrap_word _
 exact ha
theorem next_word {s : Cs} (h : s.Ok) (i : Ins) : isWord (nextOf s i) := by
 unfold nextOf
 simp only
 split; exact h.pc
 split; exact wrap_word _
 split; exact wrap_word _
 split; exact wrap_word _
 split; exact wrap_word _
 exact wrap_word _
theorem plain_same (s : Cs) (i : Ins) (h : (plain s i).2 ≠ 0) : (plain s i).1 = s := by
 unfold plain at h ⊢
 split
 ·rfl
 split
 ·rfl
 rename_i h1 h2
 rw [if_neg h1, if_neg h2] at h
 exact absurd rfl h
theorem plain_ok {s : Cs} (h : s.Ok) (i : Ins) : ((plain s i).1).Ok := by
 unfold plain
 split
 ·exact h
 split
 ·exact h
 refine ⟨next_word h i, wrap_word _, ?_, by simp [h.len], (h.put i.a _ (alu_word h i)).regs⟩
 show isWord (if i.op = 0 then s.reg i.a else s.code)
 split
 ·exact h.reg _
 ·exact h.code
end Dp
theorem runLoadSt {w : World} {p : Nat} {e : TypeId} {s : Dp.Cs} {r : Int} {post : List Value} (h : Dp.Row w p e (Dp.stCells s r ++ post)) (hl : s.regs.length = 8) : (Instr.loadAt 74 (.pointer (some ⟨p, 0, none⟩))).run Tryz.prog w = .ok (.agg (Dp.stCells s r).toArray) w :=
 run_loadAt_mid w p 0 74 _ _ (Dp.Row.range (pre := []) h) Tryz.underlying74 rfl (by rw [sizeState, Dp.stCells_length _ _ hl])
namespace Dp
theorem run_load_op {P : Program} {oi : Oper} {a : Act} {ty : TypeId} {x : Operand} {ad : Addr} {v : Value} {wx : World} (ho : oi.op = .load ty x) (hx : a.eval x = .pointer (some ad)) (h : (Instr.loadAt ty (.pointer (some ad))).run P wx = .ok v wx) : (execOp a.eval oi).run P wx = .ok (.value v) wx := by
 simp [execOp, ho, hx, h, Result.andThen]
end Dp
theorem refToldI (l : List UInt8) (a : Int) (w : World) (h : Dp.isWord a) (hl : l.length ≤ 16777216) :
  Calls Tryz.prog 88 #[.string (Dp.str l), .int .i64 a] w fun e w' => e = .returned (.int .i64 (Dp.told l a)) ∧ w' = w := by
 unfold Dp.isWord at h
 obtain ⟨k, rfl⟩ := Int.eq_ofNat_of_zero_le h.1
 exact refTold l k w (by omega) hl
theorem mixedZ : Tryz.prog.follows .mixedOrders = true := by kernel_rfl
theorem zeroIns : (Tryz.prog.info? 143).map (fun i => i.zero) = some (some (.agg (Dp.insCells ⟨0, 0, 0, 0, 0⟩).toArray)) := by kernel_rfl
end Go.Proofs.YtdipojfngdceoaaGreatDoor

namespace Go.Proofs.YtdipojfngdceoaaGreatDoor
open Go.RowKit
set_option maxHeartbeats 400000 in
theorem refSum (s : ByteArray) (w : World) (hs : s.size ≤ maxLen) :
  Calls Tryz.prog 81 #[.string s] w fun e w' => e = .returned (.int .i64 (Dp.sum s.data.toList)) ∧ w' = w := by
 unfold maxLen at hs
 go_enter Tryz.func81, Tryz.ntmps81
 go_wp2
 go_loop [3, 4] (fun n i => ∃ k : Nat, k ≤ s.size ∧ i = .int .i64 k ∧ n = .int .i64 (Dp.sum (s.data.toList.take k))) (fun _ i => s.size - (intOf i).toNat)
 case atStart => exact ⟨0, Nat.zero_le _, rfl, rfl⟩
 case round =>
  obtain ⟨k, hk, rfl, rfl⟩ := hrel
  have hd := Dp.sum_bd (s.data.toList.take k)
  by_cases hlt : k < s.size
  ·have hsn := Dp.sumFrom_snoc 7 (s.data.toList.take k) s[k]
   have hts := Dp.take_snoc s k hlt
   have HS : Hid (Dp.sum (s.data.toList.take (k + 1)) = (Dp.sum (s.data.toList.take k) * 257 + (s[k].toNat : Int) + 1) % 65521) := by rw [hts]; exact hsn
   clear hsn hts
   have hb : s[k].toNat < 256 := s[k].toNat_lt
   go_wp2
   go_round
   case rel => exact ⟨k + 1, by omega, by go_num, by rw [HS.out]⟩
   case measure => simp [intOf]; omega
  ·go_wp2
   go_ret
   exact ⟨Dp.ret_int (by rw [List.take_of_length_le (by simp; omega)]), rfl⟩
end Go.Proofs.YtdipojfngdceoaaGreatDoor
