/- Steps on the way: ProgCalls, ProgLook, ProgClone, ProgNew, ProgNew2. -/
import Derived.Test.YtdipojfngdceoaaGreatDoorShQ09
import Derived.Test.YtdipojfngdceoaaGreatDoorShQ14
import Derived.Test.YtdipojfngdceoaaGreatDoorShQ19
import Derived.Test.YtdipojfngdceoaaGreatDoorProg
import Derived.WalkKit
import Derived.WalkSpells
import Derived.WalkLawsBesides
namespace Go.Proofs.YtdipojfngdceoaaGreatDoor
open Go.RowKit
namespace Dp
theorem own_bytes {w : World} {e : TypeId} {v : Value} {l : List UInt8} (h : Own w e v (vals l)) : Bytes w v l := by
 rcases h with ⟨rfl, h2⟩ | ⟨g, tail, rfl, h2, h3⟩
 ·have : l = [] := by cases l with
   | nil => rfl
   | cons a b => simp [vals] at h2
  subst this
  exact ⟨0, 0, none, 0, rfl, by simp [maxLen], fun e => absurd rfl e, fun j hj => absurd hj (by simp)⟩
 ·refine ⟨g, 0, some ⟨g, 0, none⟩, _, by rw [vals_length], by rw [vals_length] at h3; omega, fun _ => rfl, fun j hj => ?_⟩
  rw [h2.cell, List.getElem?_append_left (by rw [vals_length]; omega)]
  simp [vals, hj]
end Dp
set_option maxRecDepth 100000 in
set_option maxHeartbeats 1000000 in
theorem progSStamp (s : Dp.Cs) (root : Int) (w : World) (hs : s.Ok) (hr : 0 ≤ root ∧ root < 65536) :
  Calls Tryz.prog 49 #[.agg (Dp.stateCells s).toArray, .int .i64 root] w fun e w' => e = .returned (.int .i64 (Dp.stamp s root)) ∧ Dp.Keeps (fun _ => False) w w' := by
 have HL : Hid ((Dp.stateCells s).length = 12) := Dp.stateCells_length s hs.len
 go_enter Tryz.func49, Tryz.ntmps49
 go_wp2_with (refine Dp.wpList_box_row rfl 100 _ rfl (Dp.stateCells s) rfl ?_)
 intro w1 x1 z1 k1
 have HX := Hid.mk_ (Dp.row_nil x1)
 go_wp2_with (refine Dp.wpList_load_in rfl 100 _ rfl w.heap.size 0 rfl 100 [] _ [] HX.out rfl _ Tryz.underlying100 rfl (by rw [sizePState, HL.out]) ?_)
 intro _
 clear HX x1 z1
 go_wp2_with fail
 refine (progLabel s root _ hs hr).mono ?_
 rintro e w2 ⟨⟨v, rfl, ov, fv⟩, k2⟩
 have HB := Hid.mk_ (Dp.own_bytes ov)
 obtain ⟨ad, cap, ev⟩ := ov.isSlice
 rw [ev] at HB ⊢
 clear ev ov fv
 rw [Dp.vals_length] at HB ⊢
 have HB2 := Hid.mk_ (Dp.parts_one (e := 47) (HB.out.still ((Dp.Keeps.refl _ _).alloc (.cells #[.slice ad (Dp.label s root).length cap] 47))))
 go_wp2_with fail
 refine (digSum _ [Dp.label s root] _ HB2.out).mono ?_
 rintro e w3 ⟨rfl, rfl⟩
 go_wp2
 go_ret
 exact ⟨Dp.ret_int rfl, (k1.trans k2).alloc _⟩
set_option maxRecDepth 100000 in
set_option maxHeartbeats 1000000 in
theorem progMStamp (w : World) (b : Nat) (G : Nat → Prop) (vs : Value) (m : Dp.Mach) (h : Dp.ProgM w b G vs m) :
  Calls Tryz.prog 22 #[.pointer (some ⟨b, 0, none⟩)] w fun e w' => e = .returned (.int .i64 (Dp.stamp m.s (Dp.root m.cells))) ∧ Dp.Keeps (fun _ => False) w w' := by
 have H := Hid.mk_ h
 have hrow := h.row
 have hlen := h.ok.s.len
 clear h
 obtain ⟨⟨pc, st, co, ov, regs⟩, cells, srcs⟩ := m
 obtain ⟨r0, r1, r2, r3, r4, r5, r6, r7, rfl⟩ := Dp.list8 hlen
 have q0 : ∀ wx, Dp.Keeps (fun _ => False) w wx → wx.cell? ⟨b, 0, none⟩ = some (.int .u32 pc) := fun wx kx => by rw [(hrow.keep kx (fun e => e)).cell]; rfl
 have q1 : ∀ wx, Dp.Keeps (fun _ => False) w wx → wx.cell? ⟨b, 1, none⟩ = some (.int .u32 st) := fun wx kx => by rw [(hrow.keep kx (fun e => e)).cell]; rfl
 have q2 : ∀ wx, Dp.Keeps (fun _ => False) w wx → wx.cell? ⟨b, 2, none⟩ = some (.int .u32 co) := fun wx kx => by rw [(hrow.keep kx (fun e => e)).cell]; rfl
 have q3 : ∀ wx, Dp.Keeps (fun _ => False) w wx → wx.cell? ⟨b, 3, none⟩ = some (.bool ov) := fun wx kx => by rw [(hrow.keep kx (fun e => e)).cell]; rfl
 have q4 : ∀ wx, Dp.Keeps (fun _ => False) w wx → wx.cell? ⟨b, 4, none⟩ = some (.int .u32 r0) := fun wx kx => by rw [(hrow.keep kx (fun e => e)).cell]; rfl
 have q5 : ∀ wx, Dp.Keeps (fun _ => False) w wx → wx.cell? ⟨b, 5, none⟩ = some (.int .u32 r1) := fun wx kx => by rw [(hrow.keep kx (fun e => e)).cell]; rfl
 have q6 : ∀ wx, Dp.Keeps (fun _ => False) w wx → wx.cell? ⟨b, 6, none⟩ = some (.int .u32 r2) := fun wx kx => by rw [(hrow.keep kx (fun e => e)).cell]; rfl
 have q7 : ∀ wx, Dp.Keeps (fun _ => False) w wx → wx.cell? ⟨b, 7, none⟩ = some (.int .u32 r3) := fun wx kx => by rw [(hrow.keep kx (fun e => e)).cell]; rfl
 have q8 : ∀ wx, Dp.Keeps (fun _ => False) w wx → wx.cell? ⟨b, 8, none⟩ = some (.int .u32 r4) := fun wx kx => by rw [(hrow.keep kx (fun e => e)).cell]; rfl
 have q9 : ∀ wx, Dp.Keeps (fun _ => False) w wx → wx.cell? ⟨b, 9, none⟩ = some (.int .u32 r5) := fun wx kx => by rw [(hrow.keep kx (fun e => e)).cell]; rfl
 have q10 : ∀ wx, Dp.Keeps (fun _ => False) w wx → wx.cell? ⟨b, 10, none⟩ = some (.int .u32 r6) := fun wx kx => by rw [(hrow.keep kx (fun e => e)).cell]; rfl
 have q11 : ∀ wx, Dp.Keeps (fun _ => False) w wx → wx.cell? ⟨b, 11, none⟩ = some (.int .u32 r7) := fun wx kx => by rw [(hrow.keep kx (fun e => e)).cell]; rfl
 have hS0 : Dp.Keeps (fun _ => False) w w.drew := (Dp.Keeps.refl _ _).drew
 have hb := Dp.root_bd cells
 go_enter Tryz.func22, Tryz.ntmps22
 go_wp2
 refine Dp.wp_region_L (fun wx => Dp.Keeps (fun _ => False) w wx) 8 mixedP ?_
 refine' Dp.tj 0 hS0 ?_
 simp only [Act.put, Dp.tks]
 refine' Dp.tj 1 hS0 ?_
 simp only [Act.put, Dp.tks]
 refine' Dp.tj 2 hS0 ?_
 simp only [Act.put, Dp.tks]
 refine' Dp.tj 3 hS0 ?_
 simp only [Act.put, Dp.tks]
 refine' Dp.tj 4 hS0 ?_
 simp only [Act.put, Dp.tks]
 refine' Dp.tj 5 hS0 ?_
 simp only [Act.put, Dp.tks]
 refine' Dp.tj 6 hS0 ?_
 simp only [Act.put, Dp.tks]
 refine Dp.wpAnyL_one 7 rfl (by kernel_rfl) (by rfl) (fun K hK => ?_)
 go_simp
 have HR2 : Hid (Dp.Row w.drew b 107 (Dp.stateCells ⟨pc, st, co, ov, [r0, r1, r2, r3, r4, r5, r6, r7]⟩ ++ Dp.memCells vs cells ++ [])) := by unfold Hid; rw [List.append_nil]; exact hrow
 refine (progRoot w.drew b 12 _ _ _ vs cells H.out.ok.len HR2.out rfl H.out.ok.cells).mono ?_
 rintro e w2 ⟨rfl, k2⟩
 have hS1 := hS0.trans k2
 refine hK _ _ ⟨fun _ => hS1, ?_⟩
 clear hK K
 refine Dp.wpAnyL_rest (by kernel_rfl) ?_
 refine Dp.wpAny_tail 8 rfl (by kernel_rfl) ?_
 simp only [List.drop_succ_cons, List.drop_zero]
 clear q0 q1 q2 q3 q4 q5 q6 q7 q8 q9 q10 q11
 go_wp2_with fail
 refine (progSStamp ⟨pc, st, co, ov, [r0, r1, r2, r3, r4, r5, r6, r7]⟩ (Dp.root cells) _ H.out.ok.s (by omega)).mono ?_
 rintro e w3 ⟨rfl, k3⟩
 go_wp2
 go_ret
 exact ⟨rfl, hS1.trans k3⟩
namespace Dp
theorem run_one (m : Mach) : (Mach.run 1 m).1 = m.step.1 ∧ (Mach.run 1 m).2.2 = m.step.2 := by
 unfold Mach.run
 by_cases hov : m.s.over = true
 ·rw [if_pos hov]
  unfold Mach.step; rw [if_pos hov]; exact ⟨rfl, rfl⟩
 ·rw [if_neg hov]
  by_cases hz : m.step.2 = 0
  ·rw [if_neg (by simpa using hz)]; exact ⟨rfl, hz.symm⟩
  ·rw [if_pos hz]; exact ⟨(step_same m hz).symm, rfl⟩
end Dp
set_option maxRecDepth 100000 in
set_option maxHeartbeats 1000000 in
theorem progMStep (w : World) (b : Nat) (G : Nat → Prop) (vs : Value) (m : Dp.Mach) (h : Dp.ProgM w b G vs m) :
  Calls Tryz.prog 25 #[.pointer (some ⟨b, 0, none⟩)] w fun e w' => e = .returned (.int .i64 m.step.2) ∧ Dp.Keeps (fun k => k = b) w w' ∧ Dp.ProgM w' b G vs m.step.1 := by
 have HR := Hid.mk_ (Dp.run_one m)
 go_enter Tryz.func25, Tryz.ntmps25
 go_wp2_with fail
 refine (progRunM w b G vs m h 1 (by omega)).mono ?_
 rintro e w1 ⟨rfl, k1, h1⟩
 rw [HR.out.1] at h1
 rw [HR.out.2]
 generalize (Dp.Mach.run 1 m).2.1 = dn at *
 go_wp2
 go_ret
 exact ⟨rfl, k1, h1⟩
set_option maxRecDepth 100000 in
set_option maxHeartbeats 1000000 in
theorem progMRun (w : World) (b : Nat) (G : Nat → Prop) (vs : Value) (m : Dp.Mach) (h : Dp.ProgM w b G vs m) (n : Nat) (hn : n ≤ 100000) :
  Calls Tryz.prog 40 #[.pointer (some ⟨b, 0, none⟩), .int .i64 n] w fun e w' => e = .returned (.tuple #[.int .i64 ((Dp.Mach.run n m).2.1 : Int), .int .i64 (Dp.Mach.run n m).2.2]) ∧ Dp.Keeps (fun k => k = b) w w' ∧ Dp.ProgM w' b G vs (Dp.Mach.run n m).1 := by
 have hn0 : ¬ (n : Int) < 0 := by omega
 have hn1 : ¬ (100000 : Int) < (n : Int) := by omega
 go_enter Tryz.func40, Tryz.ntmps40
 go_wp2_with fail
 refine (progRunM w b G vs m h n hn).mono ?_
 rintro e w1 ⟨rfl, k1, h1⟩
 go_wp2
 go_ret2
 exact ⟨rfl, k1, h1⟩
set_option maxRecDepth 100000 in
set_option maxHeartbeats 1000000 in
theorem progMRunErr (w : World) (b : Nat) (n : Int) (hn : n < 0 ∨ 100000 < n) :
  Calls Tryz.prog 40 #[.pointer (some ⟨b, 0, none⟩), .int .i64 n] w fun e w' => e = .returned (.tuple #[.int .i64 0, .int .i64 1]) ∧ w' = w := by
 rcases hn with hn | hn
 ·go_enter Tryz.func40, Tryz.ntmps40
  go_wp2
  go_ret2
  exact ⟨rfl, rfl⟩
 ·have hn' : ¬ n < 0 := by omega
  go_enter Tryz.func40, Tryz.ntmps40
  go_wp2
  go_ret2
  exact ⟨rfl, rfl⟩
set_option maxRecDepth 100000 in
set_option maxHeartbeats 1000000 in
theorem progMCell (w : World) (b : Nat) (G : Nat → Prop) (vs : Value) (m : Dp.Mach) (h : Dp.ProgM w b G vs m) (n : Int) (hn : 0 ≤ n ∧ n < 256) :
  Calls Tryz.prog 60 #[.pointer (some ⟨b, 0, none⟩), .int .i64 n] w fun e w' => e = .returned (.tuple #[.int .i64 (m.cell n), .int .i64 0]) ∧ w' = w := by
 have hn0 : ¬ n < 0 := by omega
 have hn1 : ¬ n ≥ 256 := by omega
 have HR2 : Hid (Dp.Row w b 107 (Dp.stateCells m.s ++ Dp.memCells vs m.cells ++ [])) := by unfold Hid; rw [List.append_nil]; exact h.row
 have hc := h.ok.cell n
 unfold Dp.isWord at hc
 have HC := Hid.mk_ (progCellsLoad w b 12 _ _ _ vs m.cells n h.ok.len HR2.out (Dp.stateCells_length _ h.ok.s.len) (by unfold Dp.isWord; omega) h.ok.cells)
 rw [if_neg hn1, if_neg hn1] at HC
 have e1 : m.cells.getD n.toNat 0 = m.cell n := rfl
 rw [e1] at HC
 clear e1
 generalize m.cell n = cx at *
 go_enter Tryz.func60, Tryz.ntmps60
 go_wp2_with (refine HC.out.mono ?_; rintro e w' ⟨rfl, rfl⟩)
 go_ret2
 exact ⟨rfl, rfl⟩
set_option maxRecDepth 100000 in
set_option maxHeartbeats 1000000 in
theorem progMCellErr (w : World) (b : Nat) (n : Int) (hn : n < 0 ∨ 256 ≤ n) :
  Calls Tryz.prog 60 #[.pointer (some ⟨b, 0, none⟩), .int .i64 n] w fun e w' => e = .returned (.tuple #[.int .i64 0, .int .i64 1]) ∧ w' = w := by
 rcases hn with hn | hn
 ·go_enter Tryz.func60, Tryz.ntmps60
  go_wp2
  go_ret2
  exact ⟨rfl, rfl⟩
 ·have hn' : ¬ n < 0 := by omega
  go_enter Tryz.func60, Tryz.ntmps60
  go_wp2
  go_ret2
  exact ⟨rfl, rfl⟩
namespace Dp
def lookN (s : Cs) (k : Nat) : Cs := { s with regs := s.regs.take k ++ List.replicate (8 - k) 0 }
theorem lookN_len (s : Cs) (k : Nat) (h : s.regs.length = 8) (hk : k ≤ 8) : (lookN s k).regs.length = 8 := by simp [lookN, h]; omega
theorem lookN_set (s : Cs) (root : Int) (k : Nat) (h : s.regs.length = 8) (hk : k < s.regs.length) : (stCells (lookN s k) root).set (4 + k) (.int .i64 s.regs[k]) = stCells (lookN s (k + 1)) root := by
 have h1 := stCells_put (lookN s k) root (lookN_len s k h (by omega)) (k : Int) s.regs[k] (by omega)
 rw [Int.toNat_natCast] at h1
 rw [h1]
 have h2 : (lookN s k).put (k : Int) s.regs[k] = lookN s (k + 1) := by
  unfold lookN Cs.put
  simp only [Int.toNat_natCast]
  congr 1
  have hl : (s.regs.take k).length = k := by simp; omega
  rw [List.set_append_right _ _ (by omega), hl, Nat.sub_self, List.take_succ_eq_append_getElem hk, show 8 - k = (8 - (k + 1)) + 1 by omega, List.replicate_succ, List.set_cons_zero, List.append_assoc]
  rfl
 rw [h2]
theorem lookN_all (s : Cs) (h : s.regs.length = 8) : lookN s 8 = s := by
 unfold lookN; rw [List.take_of_length_le (Nat.le_of_eq h)]; simp
theorem lookN_cell (s : Cs) (root : Int) (k : Nat) (h : s.regs.length = 8) (hk : k < 8) : ∃ v, (stCells (lookN s k) root)[4 + k]? = some (.int .i64 v) := by
 have h1 := stCells_reg (lookN s k) root (lookN_len s k h (by omega)) (k : Int) (by omega)
 rw [Int.toNat_natCast] at h1
 exact ⟨_, h1⟩
end Dp
set_option maxRecDepth 100000 in
set_option maxHeartbeats 1000000 in
theorem progSLook (s : Dp.Cs) (root : Int) (w : World) (hs : s.Ok) :
  Calls Tryz.prog 54 #[.agg (Dp.stateCells s).toArray, .int .i64 root] w fun e w' => e = .returned (Dp.stVal s root) ∧ Dp.Keeps (fun _ => False) w w' := by
 have hpc := hs.pc
 have hst := hs.steps
 have hco := hs.code
 unfold Dp.isWord at hpc hst hco
 go_enter Tryz.func54, Tryz.ntmps54
 go_wp2_with (refine Dp.wpList_box_row rfl 100 _ rfl (Dp.stateCells s) rfl ?_)
 intro w1 x1 z1 k1
 go_wp2_with (refine Dp.wpList_alloc_row rfl 74 rfl _ zeroState ?_)
 intro w2 y2 z2 k2
 have x2 := x1.keep k2 (fun e => e)
 obtain ⟨c0, c1, c2, c3⟩ := x2.state
 go_wp2_with (refine Dp.wpList_alloc_row rfl 74 rfl _ zeroState ?_)
 intro w3 t3 z3 k3
 have HT3 := Hid.mk_ (Dp.row_nil t3)
 go_wp2_with (refine Dp.wpList_store_in rfl 74 _ _ rfl (w.heap.size + 1 + 1) 0 rfl (Dp.stCells (Dp.lookN s 0) root) rfl 74 [] _ [] HT3.out rfl rfl (by rw [sizeState]; rfl) (Dp.stCells_one _ _) ?_)
 intro w4 t4 z4 k4
 have t4' : Dp.Row w4 (w.heap.size + 1 + 1) 74 (Dp.stCells (Dp.lookN s 0) root) := by simpa using t4
 have hk4 : Dp.Keeps (fun _ => False) w w4 := ((k1.trans k2).trans k3).next k4 (fun k hk e => by omega)
 have y4 := (y2.keep k3 (fun e => e)).keep k4 (show ¬ w.heap.size + 1 = w.heap.size + 1 + 1 by omega)
 have x4 := (x2.keep k3 (fun e => e)).keep k4 (show ¬ w.heap.size = w.heap.size + 1 + 1 by omega)
 have HX : Hid (Dp.Row w4 w.heap.size 100 ([.int .u32 s.pc, .int .u32 s.steps, .int .u32 s.code, .bool s.over] ++ Dp.wordCells s.regs ++ [])) := by unfold Hid; rw [List.append_nil]; exact x4
 have HW : Hid ((Dp.wordCells s.regs).length = 8) := by unfold Hid; simp [Dp.wordCells, hs.len]
 clear x1 y2 x2 t3 HT3 t4 x4 k1 k2 k3 k4 c0 c1 c2 c3 z1 z2 z3 z4
 go_wp2_with (refine Dp.wpList_load_in rfl 98 _ rfl w.heap.size 4 rfl 100 _ _ _ HX.out rfl _ Tryz.underlying98 rfl (by rw [sizeRegs32, HW.out]) ?_)
 intro _
 go_wp2
 go_loopw [6, 7, 23] (fun _ _ i wr => ∃ k : Nat, k ≤ 8 ∧ i = .int .i64 k ∧ Dp.Row wr (w.heap.size + 1 + 1) 74 (Dp.stCells (Dp.lookN s k) root) ∧ Dp.Row wr (w.heap.size + 1) 74 (Dp.stCells ⟨0, 0, 0, false, [0, 0, 0, 0, 0, 0, 0, 0]⟩ 0) ∧ Dp.Keeps (fun _ => False) w wr) (fun _ _ i _ => 8 - (intOf i).toNat)
 case atStart => exact ⟨0, Nat.zero_le _, rfl, t4', y4, hk4⟩
 case round =>
  obtain ⟨k, hk, rfl, tk, yk, kk⟩ := hrel
  clear t4' y4 hk4
  by_cases hk2 : k < 8
  ·have hkl : k < s.regs.length := by rw [hs.len]; exact hk2
   have hx : (Dp.wordCells s.regs).toArray[k]? = some (.int .u32 s.regs[k]) := by simp [Dp.wordCells, hkl]
   have hwx := hs.regs _ (List.getElem_mem hkl)
   unfold Dp.isWord at hwx
   have hidx : ∀ wx, (Instr.index 98 (.agg (Dp.wordCells s.regs).toArray) (.int .i64 (k : Int))).run Tryz.prog wx = .ok (.int .u32 s.regs[k]) wx := fun wx => Dp.run_index_one wx 98 97 8 _ k _ (by rfl) (by rfl) (by rfl) hk2 hx
   obtain ⟨cv, hcv⟩ := Dp.lookN_cell s root k hs.len hk2
   have ck : wr.cell? ⟨w.heap.size + 1 + 1, 4 + k, none⟩ = some (.int .i64 cv) := (tk.cell _).trans hcv
   have fk := tk.frozen (4 + k)
   have HR : Hid (Dp.Row (wr.setCell ⟨w.heap.size + 1 + 1, 4 + k, none⟩ (.int .i64 s.regs[k])) (w.heap.size + 1 + 1) 74 (Dp.stCells (Dp.lookN s (k + 1)) root)) := by
    unfold Hid
    have h := tk.set (4 + k) (.int .i64 s.regs[k])
    rw [Dp.lookN_set s root k hs.len hkl] at h
    exact h
   have HY : Hid (Dp.Row (wr.setCell ⟨w.heap.size + 1 + 1, 4 + k, none⟩ (.int .i64 s.regs[k])) (w.heap.size + 1) 74 (Dp.stCells ⟨0, 0, 0, false, [0, 0, 0, 0, 0, 0, 0, 0]⟩ 0)) := yk.setOther _ _ (show w.heap.size + 1 ≠ w.heap.size + 1 + 1 by omega)
   have HK : Hid (Dp.Keeps (fun _ => False) w (wr.setCell ⟨w.heap.size + 1 + 1, 4 + k, none⟩ (.int .i64 s.regs[k]))) := kk.setCell (p := ⟨w.heap.size + 1 + 1, 4 + k, none⟩) (.inl (show w.heap.size ≤ w.heap.size + 1 + 1 by omega)) _
   generalize s.regs[k] = rk at *
   clear HX hx tk yk hcv
   go_wp2
   go_roundw
   case rel => exact ⟨k + 1, by omega, by go_num, HR.out, HY.out, HK.out⟩
   case measure => simp [intOf]; omega
  ·have e8 : k = 8 := by omega
   rw [e8, Dp.lookN_all s hs.len] at tk
   clear e8
   have HTK := Hid.mk_ (Dp.row_nil tk)
   have HYK := Hid.mk_ (Dp.row_nil yk)
   have HM : Hid ((Dp.stCells s root).length = 13) := Dp.stCells_length _ _ hs.len
   clear tk yk HX
   go_wp2_with (first | (refine Dp.wpList_store_in rfl 74 _ _ rfl (w.heap.size + 1) 0 rfl (Dp.stCells s root) rfl 74 [] _ [] HYK.out rfl (by rw [HM.out]; rfl) (by rw [sizeState, HM.out]) (Dp.stCells_one _ _) ?_) | (refine Dp.wpList_load_in rfl 74 _ rfl (w.heap.size + 1 + 1) 0 rfl 74 [] _ _ HTK.out rfl _ Tryz.underlying74 rfl (by rw [sizeState, HM.out]) ?_; intro _))
   intro w5 r5 z5 k5
   go_wp2
   have r5' : Dp.Row w5 (w.heap.size + 1) 74 (Dp.stCells s root) := by simpa using r5
   refine bodyPost_ret (v := Dp.stVal s root) (results_cell_row rfl _ _ (w.heap.size + 1) 74 _ (0, 0) _ rfl r5' Tryz.underlying74 rfl (by rw [sizeState, List.size_toArray, HM.out])) rfl ⟨rfl, ?_⟩
   exact kk.next k5 (fun k hk e => by omega)
set_option maxRecDepth 100000 in
set_option maxHeartbeats 1000000 in
theorem progMLook (w : World) (b : Nat) (G : Nat → Prop) (vs : Value) (m : Dp.Mach) (h : Dp.ProgM w b G vs m) :
  Calls Tryz.prog 27 #[.pointer (some ⟨b, 0, none⟩)] w fun e w' => e = .returned (Dp.stVal m.s (Dp.root m.cells)) ∧ Dp.Keeps (fun _ => False) w w' := by
 have H := Hid.mk_ h
 have hrow := h.row
 have hlen := h.ok.s.len
 clear h
 obtain ⟨⟨pc, st, co, ov, regs⟩, cells, srcs⟩ := m
 obtain ⟨r0, r1, r2, r3, r4, r5, r6, r7, rfl⟩ := Dp.list8 hlen
 go_enter Tryz.func27, Tryz.ntmps27
 go_wp2_with (refine Dp.wpList_alloc_row rfl 74 rfl _ zeroState ?_)
 intro w1 y1 z1 k1
 have hrow1 := hrow.keep k1 (fun e => e)
 have q0 : ∀ wx, Dp.Keeps (fun _ => False) w1 wx → wx.cell? ⟨b, 0, none⟩ = some (.int .u32 pc) := fun wx kx => by rw [(hrow1.keep kx (fun e => e)).cell]; rfl
 have q1 : ∀ wx, Dp.Keeps (fun _ => False) w1 wx → wx.cell? ⟨b, 1, none⟩ = some (.int .u32 st) := fun wx kx => by rw [(hrow1.keep kx (fun e => e)).cell]; rfl
 have q2 : ∀ wx, Dp.Keeps (fun _ => False) w1 wx → wx.cell? ⟨b, 2, none⟩ = some (.int .u32 co) := fun wx kx => by rw [(hrow1.keep kx (fun e => e)).cell]; rfl
 have q3 : ∀ wx, Dp.Keeps (fun _ => False) w1 wx → wx.cell? ⟨b, 3, none⟩ = some (.bool ov) := fun wx kx => by rw [(hrow1.keep kx (fun e => e)).cell]; rfl
 have q4 : ∀ wx, Dp.Keeps (fun _ => False) w1 wx → wx.cell? ⟨b, 4, none⟩ = some (.int .u32 r0) := fun wx kx => by rw [(hrow1.keep kx (fun e => e)).cell]; rfl
 have q5 : ∀ wx, Dp.Keeps (fun _ => False) w1 wx → wx.cell? ⟨b, 5, none⟩ = some (.int .u32 r1) := fun wx kx => by rw [(hrow1.keep kx (fun e => e)).cell]; rfl
 have q6 : ∀ wx, Dp.Keeps (fun _ => False) w1 wx → wx.cell? ⟨b, 6, none⟩ = some (.int .u32 r2) := fun wx kx => by rw [(hrow1.keep kx (fun e => e)).cell]; rfl
 have q7 : ∀ wx, Dp.Keeps (fun _ => False) w1 wx → wx.cell? ⟨b, 7, none⟩ = some (.int .u32 r3) := fun wx kx => by rw [(hrow1.keep kx (fun e => e)).cell]; rfl
 have q8 : ∀ wx, Dp.Keeps (fun _ => False) w1 wx → wx.cell? ⟨b, 8, none⟩ = some (.int .u32 r4) := fun wx kx => by rw [(hrow1.keep kx (fun e => e)).cell]; rfl
 have q9 : ∀ wx, Dp.Keeps (fun _ => False) w1 wx → wx.cell? ⟨b, 9, none⟩ = some (.int .u32 r5) := fun wx kx => by rw [(hrow1.keep kx (fun e => e)).cell]; rfl
 have q10 : ∀ wx, Dp.Keeps (fun _ => False) w1 wx → wx.cell? ⟨b, 10, none⟩ = some (.int .u32 r6) := fun wx kx => by rw [(hrow1.keep kx (fun e => e)).cell]; rfl
 have q11 : ∀ wx, Dp.Keeps (fun _ => False) w1 wx → wx.cell? ⟨b, 11, none⟩ = some (.int .u32 r7) := fun wx kx => by rw [(hrow1.keep kx (fun e => e)).cell]; rfl
 have hS0 : Dp.Keeps (fun _ => False) w1 w1.drew := (Dp.Keeps.refl _ _).drew
 go_wp2
 refine Dp.wp_region_L (fun wx => Dp.Keeps (fun _ => False) w1 wx) 8 mixedP ?_
 refine' Dp.tj 0 hS0 ?_
 simp only [Act.put, Dp.tks]
 refine' Dp.tj 1 hS0 ?_
 simp only [Act.put, Dp.tks]
 refine' Dp.tj 2 hS0 ?_
 simp only [Act.put, Dp.tks]
 refine' Dp.tj 3 hS0 ?_
 simp only [Act.put, Dp.tks]
 refine' Dp.tj 4 hS0 ?_
 simp only [Act.put, Dp.tks]
 refine' Dp.tj 5 hS0 ?_
 simp only [Act.put, Dp.tks]
 refine' Dp.tj 6 hS0 ?_
 simp only [Act.put, Dp.tks]
 refine Dp.wpAnyL_one 7 rfl (by kernel_rfl) (by rfl) (fun K hK => ?_)
 go_simp
 have HR2 : Hid (Dp.Row w1.drew b 107 (Dp.stateCells ⟨pc, st, co, ov, [r0, r1, r2, r3, r4, r5, r6, r7]⟩ ++ Dp.memCells vs cells ++ [])) := by unfold Hid; rw [List.append_nil]; exact hrow1
 refine (progRoot w1.drew b 12 _ _ _ vs cells H.out.ok.len HR2.out rfl H.out.ok.cells).mono ?_
 rintro e w2 ⟨rfl, k2⟩
 have hS1 := hS0.trans k2
 refine hK _ _ ⟨fun _ => hS1, ?_⟩
 clear hK K
 refine Dp.wpAnyL_rest (by kernel_rfl) ?_
 refine Dp.wpAny_tail 8 rfl (by kernel_rfl) ?_
 simp only [List.drop_succ_cons, List.drop_zero]
 clear q0 q1 q2 q3 q4 q5 q6 q7 q8 q9 q10 q11
 go_wp2_with fail
 refine (progSLook ⟨pc, st, co, ov, [r0, r1, r2, r3, r4, r5, r6, r7]⟩ (Dp.root cells) _ H.out.ok.s).mono ?_
 rintro e w3 ⟨rfl, k3⟩
 have HY3 := Hid.mk_ (Dp.row_nil ((y1.keep hS1 (fun e => e)).keep k3 (fun e => e)))
 have HK3 := Hid.mk_ ((k1.trans hS1).trans k3)
 clear y1 hS1 hS0 k1 k2 k3 z1
 have HM : Hid ((Dp.stCells ⟨pc, st, co, ov, [r0, r1, r2, r3, r4, r5, r6, r7]⟩ (Dp.root cells)).length = 13) := Dp.stCells_length _ _ rfl
 have HV : Hid (∃ S : Dp.Cs, ∃ R : Int, S = ⟨pc, st, co, ov, [r0, r1, r2, r3, r4, r5, r6, r7]⟩ ∧ R = Dp.root cells) := ⟨_, _, rfl, rfl⟩
 obtain ⟨S, R, hS, hR⟩ := HV.out
 rw [← hS, ← hR] at HM ⊢
 have HSR := Hid.mk_ (And.intro hS hR)
 clear HV hS hR
 go_wp2_with (refine Dp.wpList_store_in rfl 74 _ _ rfl w.heap.size 0 rfl (Dp.stCells S R) rfl 74 [] _ [] HY3.out rfl (by rw [HM.out]; rfl) (by rw [sizeState, HM.out]) (Dp.stCells_one _ _) ?_)
 intro w5 r5x z5 k5
 go_wp2
 have r5' : Dp.Row w5 w.heap.size 74 (Dp.stCells S R) := by simpa using r5x
 refine bodyPost_ret (v := Dp.stVal S R) (results_cell_row rfl _ _ w.heap.size 74 _ (0, 0) _ rfl r5' Tryz.underlying74 rfl (by rw [sizeState, List.size_toArray, HM.out])) rfl ?_
 rw [HSR.out.1, HSR.out.2]
 exact ⟨rfl, HK3.out.next k5 (fun k hk e => by omega)⟩
set_option maxRecDepth 100000 in
set_option maxHeartbeats 1000000 in
theorem progClone (v : Value) (l : List UInt8) (w : World) (hv : Dp.Bytes w v l) (hl : l.length ≤ 1000000) :
  Calls Tryz.prog 80 #[v] w fun e w' => (∃ v', e = .returned v' ∧ Dp.Own w' 5 v' (Dp.vals l) ∧ ∀ g, v'.ownBlock = some g → w.heap.size ≤ g) ∧ Dp.Keeps (fun _ => False) w w' := by
 have HV := Hid.mk_ hv
 obtain ⟨b, o, ad, cap, rfl, hlen, hne, hc⟩ := hv
 cases ad with
 | none =>
  have hz : l = [] := by
   cases l with
   | nil => rfl
   | cons a r => exact absurd (hne (by simp)) (by simp)
  subst hz
  have heq := fun wx => Lib.run_eql_slice_nil (P := Tryz.prog) wx 47 5 none 0 cap 0 0 Tryz.underlying47
  go_enter Tryz.func80, Tryz.ntmps80
  go_wp2
  go_ret
  exact ⟨⟨.slice none 0 0, rfl, Dp.Own.nil _ _, fun g hg => by simp [Value.ownBlock] at hg⟩, Dp.Keeps.refl _ _⟩
 | some ad =>
  by_cases hz : l = []
  ·subst hz
   clear hc hne
   have heq := fun wx => Lib.run_eql_slice_nil (P := Tryz.prog) wx 47 5 (some ad) 0 cap 0 0 Tryz.underlying47
   go_enter Tryz.func80, Tryz.ntmps80
   go_wp2
   go_ret
   refine ⟨⟨.slice (some ⟨w.heap.size, 0, none⟩) 0 0, rfl, .inr ⟨w.heap.size, [], rfl, Dp.Row.allocNew w 5 [], by simp [Dp.vals, maxLen]⟩, fun g hg => ?_⟩, (Dp.Keeps.refl _ _).alloc _⟩
   simp [Value.ownBlock] at hg
   omega
  ·obtain rfl : ad = ⟨b, o, none⟩ := by have := hne hz; simpa using this
   have hpos : 0 < l.length := by cases l with
    | nil => exact absurd rfl hz
    | cons a r => simp
   have heq := fun wx => Lib.run_eql_slice_nil (P := Tryz.prog) wx 47 5 (some ⟨b, o, none⟩) l.length cap 0 0 Tryz.underlying47
   go_enter Tryz.func80, Tryz.ntmps80
   have HO : Hid (Dp.Own (w.alloc (.cells #[] 5)) 5 (.slice (some ⟨w.heap.size, 0, none⟩) 0 0) []) := .inr ⟨w.heap.size, [], rfl, Dp.Row.allocNew w 5 [], by simp [maxLen]⟩
   have HN : Hid (∀ j u, (Dp.vals l)[j]? = some u → (w.alloc (.cells #[] 5)).cell? ((⟨b, o, none⟩ : Addr).add j) = some u) := by
    intro j u hj
    have hjl : j < l.length := by have := (List.getElem?_eq_some_iff.1 hj).1; rwa [Dp.vals_length] at this
    have h1 := hc j hjl
    have h2 := ((Dp.Keeps.refl (fun _ => False) w).alloc (.cells #[] 5)).cell (p := ⟨b, o + j, none⟩) (Dp.cell_lt h1) (fun e => e)
    have h3 : (⟨b, o, none⟩ : Addr).add j = ⟨b, o + j, none⟩ := by simp [Addr.add]
    rw [h3, h2, h1]
    simp [Dp.vals, hjl] at hj
    rw [hj]
   have HVL : Hid ((Dp.vals l).length = l.length) := Dp.vals_length l
   clear hc
   go_wp2_with (at_builtin; refine Dp.wpList_append_Own rfl _ _ 47 rfl 5 (.int .u8 0) 1 Tryz.underlying47 infoU8 rfl (.slice (some ⟨w.heap.size, 0, none⟩) 0 0) [] rfl HO.out ⟨b, o, none⟩ l.length cap (Dp.vals l) rfl HVL.out HN.out (Dp.vals_one _) hpos (by simp [maxLen]; omega) (by simp; omega) ?_)
   intro v2 w2 o2 k2 s2
   go_wp2
   go_ret
   refine ⟨⟨v2, rfl, o2, fun g hg => ?_⟩, ((Dp.Keeps.refl _ _).alloc _).next k2 (fun i hi e => ?_)⟩
   ·rcases s2.out with h | h
    ·rw [h.1] at hg; simp [Value.ownBlock] at hg; omega
    ·rw [h.1] at hg; simp at hg; omega
   ·simp [Value.ownBlock] at e; omega
namespace Dp
def wordsOk (words : List Int) : Bool := decide (words.length ≤ 256) && words.all (fun x => decide (0 ≤ x) && decide (x < 4294967296))
def srcsOk (srcs : List (List UInt8)) : Bool := decide (srcs.length ≤ 8) && srcs.all (fun l => decide (l.length ≤ 200))
theorem newOk_both (words : List Int) (srcs : List (List UInt8)) : newOk words srcs = (wordsOk words && srcsOk srcs) := by
 unfold newOk wordsOk srcsOk
 cases decide (words.length ≤ 256) <;> cases decide (srcs.length ≤ 8) <;> simp
theorem wordsOk_false (words : List Int) (k : Nat) (hk : k < words.length) (h : words[k] < 0 ∨ 4294967295 < words[k]) : wordsOk words = false := by
 unfold wordsOk
 have : words.all (fun x => decide (0 ≤ x) && decide (x < 4294967296)) = false := by
  rw [List.all_eq_false]
  exact ⟨words[k], List.getElem_mem hk, by simp; omega⟩
 rw [this]; simp
theorem wordsOk_true (words : List Int) (h1 : words.length ≤ 256) (h : ∀ k (hk : k < words.length), 0 ≤ words[k] ∧ words[k] ≤ 4294967295) : wordsOk words = true := by
 unfold wordsOk
 simp only [Bool.and_eq_true, decide_eq_true_eq, List.all_eq_true]
 refine ⟨h1, fun x hx => ?_⟩
 obtain ⟨k, hk, rfl⟩ := List.getElem_of_mem hx
 have := h k hk
 omega
theorem srcsOk_false (srcs : List (List UInt8)) (k : Nat) (hk : k < srcs.length) (h : 200 < srcs[k].length) : srcsOk srcs = false := by
 unfold srcsOk
 have : srcs.all (fun l => decide (l.length ≤ 200)) = false := by
  rw [List.all_eq_false]
  exact ⟨srcs[k], List.getElem_mem hk, by simp; omega⟩
 rw [this]; simp
theorem srcsOk_true (srcs : List (List UInt8)) (h1 : srcs.length ≤ 8) (h : ∀ k (hk : k < srcs.length), srcs[k].length ≤ 200) : srcsOk srcs = true := by
 unfold srcsOk
 simp only [Bool.and_eq_true, decide_eq_true_eq, List.all_eq_true]
 refine ⟨h1, fun x hx => ?_⟩
 obtain ⟨k, hk, rfl⟩ := List.getElem_of_mem hx
 exact h k hk
end Dp
set_option maxRecDepth 100000 in
set_option maxHeartbeats 1000000 in
theorem progAreCells (w : World) (vW : Value) (words : List Int) (hW : Dp.Ints w vW words) (h64 : ∀ x ∈ words, -9223372036854775808 ≤ x ∧ x ≤ 9223372036854775807) :
  Calls Tryz.prog 78 #[vW] w fun e w' => e = .returned (.bool (Dp.wordsOk words)) ∧ w' = w := by
 obtain ⟨b, o, ad, cap, rfl, hlen, hne, hc⟩ := hW
 by_cases h256 : 256 < words.length
 ·have HF : Hid (Dp.wordsOk words = false) := by
   unfold Hid Dp.wordsOk
   have : decide (words.length ≤ 256) = false := by simp; omega
   rw [this]; rfl
  clear hc hne
  go_enter Tryz.func78, Tryz.ntmps78
  go_wp2
  go_ret
  rw [HF.out]
  exact ⟨rfl, rfl⟩
 ·have HC := Hid.mk_ hc
  have HN := Hid.mk_ hne
  have H64 := Hid.mk_ h64
  clear hc hne h64
  go_enter Tryz.func78, Tryz.ntmps78
  go_wp2
  go_loop [4, 10] (fun _ i => ∃ k : Nat, k ≤ words.length ∧ i = .int .i64 k ∧ Hid (∀ j (hj : j < words.length), j < k → 0 ≤ words[j] ∧ words[j] ≤ 4294967295)) (fun _ i => words.length - (intOf i).toNat)
  case atStart => exact ⟨0, Nat.zero_le _, rfl, fun j _ hj => absurd hj (by omega)⟩
  case round =>
   obtain ⟨k, hk, rfl, hno⟩ := hrel
   by_cases hlt : k < words.length
   ·obtain ⟨rfl, _⟩ := HN.out (by intro e; simp [e] at hlt)
    have ck := HC.out k hlt
    have h64 := H64.out _ (List.getElem_mem hlt)
    by_cases hlo : words[k] < 0
    ·have HF := Hid.mk_ (Dp.wordsOk_false words k hlt (.inl hlo))
     generalize words[k] = x at *
     go_wp2
     go_ret
     rw [HF.out]
     exact ⟨rfl, rfl⟩
    ·by_cases hhi : 4294967295 < words[k]
     ·have HF := Hid.mk_ (Dp.wordsOk_false words k hlt (.inr hhi))
      generalize words[k] = x at *
      go_wp2
      go_ret
      rw [HF.out]
      exact ⟨rfl, rfl⟩
     ·have HNX : Hid (∀ j (hj : j < words.length), j < k + 1 → 0 ≤ words[j] ∧ words[j] ≤ 4294967295) := by
       intro j hj hjk
       by_cases e : j = k
       ·subst e; omega
       ·exact hno.out j hj (by omega)
      generalize words[k] = x at *
      go_wp2
      go_round
      case rel => exact ⟨k + 1, by omega, by go_num, HNX⟩
      case measure => simp [intOf]; omega
   ·have HF := Hid.mk_ (Dp.wordsOk_true words (by omega) (fun j hj => hno.out j hj (by omega)))
    go_wp2
    go_ret
    rw [HF.out]
    exact ⟨rfl, rfl⟩
set_option maxRecDepth 100000 in
set_option maxHeartbeats 1000000 in
theorem progAreSources (w : World) (vS : Value) (srcs : List (List UInt8)) (hS : Dp.Parts w vS srcs) (hl : srcs.length ≤ 1048576) (hb : ∀ l ∈ srcs, l.length ≤ 1048576) :
  Calls Tryz.prog 79 #[vS] w fun e w' => e = .returned (.bool (Dp.srcsOk srcs)) ∧ w' = w := by
 obtain ⟨b, o, ad, cap, rfl, hlen, hne, hc⟩ := hS
 by_cases h8 : 8 < srcs.length
 ·have HF : Hid (Dp.srcsOk srcs = false) := by
   unfold Hid Dp.srcsOk
   have : decide (srcs.length ≤ 8) = false := by simp; omega
   rw [this]; rfl
  clear hc hne
  go_enter Tryz.func79, Tryz.ntmps79
  go_wp2
  go_ret
  rw [HF.out]
  exact ⟨rfl, rfl⟩
 ·have HC := Hid.mk_ hc
  have HN := Hid.mk_ hne
  have HB := Hid.mk_ hb
  clear hc hne hb
  go_enter Tryz.func79, Tryz.ntmps79
  go_wp2
  go_loop [4, 10] (fun _ i => ∃ k : Nat, k ≤ srcs.length ∧ i = .int .i64 k ∧ Hid (∀ j (hj : j < srcs.length), j < k → srcs[j].length ≤ 200)) (fun _ i => srcs.length - (intOf i).toNat)
  case atStart => exact ⟨0, Nat.zero_le _, rfl, fun j _ hj => absurd hj (by omega)⟩
  case round =>
   obtain ⟨k, hk, rfl, hno⟩ := hrel
   by_cases hlt : k < srcs.length
   ·obtain rfl := HN.out (by intro e; simp [e] at hlt)
    obtain ⟨vi, ck, b2, o2, ad2, cap2, rfl, hl2, h3, h4⟩ := HC.out k hlt
    clear hl2 h3 h4
    have hbk := HB.out _ (List.getElem_mem hlt)
    by_cases hhi : 200 < srcs[k].length
    ·have HF := Hid.mk_ (Dp.srcsOk_false srcs k hlt hhi)
     generalize srcs[k].length = x at *
     go_wp2
     go_ret
     rw [HF.out]
     exact ⟨rfl, rfl⟩
    ·have HNX : Hid (∀ j (hj : j < srcs.length), j < k + 1 → srcs[j].length ≤ 200) := by
      intro j hj hjk
      by_cases e : j = k
      ·subst e; omega
      ·exact hno.out j hj (by omega)
     generalize srcs[k].length = x at *
     go_wp2
     go_round
     case rel => exact ⟨k + 1, by omega, by go_num, HNX⟩
     case measure => simp [intOf]; omega
   ·have HF := Hid.mk_ (Dp.srcsOk_true srcs (by omega) (fun j hj => hno.out j hj (by omega)))
    go_wp2
    go_ret
    rw [HF.out]
    exact ⟨rfl, rfl⟩
namespace Dp
theorem Ints.still {w w' : World} {v : Value} {l : List Int} (h : Ints w v l) (k : Keeps (fun _ => False) w w') : Ints w' v l := by
 obtain ⟨b, o, ad, cap, h1, h2, h3, h4⟩ := h
 exact ⟨b, o, ad, cap, h1, h2, fun e => ⟨(h3 e).1, Nat.lt_of_lt_of_le (h3 e).2 k.size⟩, fun j hj => (k.cell (p := ⟨b, o + j, none⟩) (cell_lt (h4 j hj)) (fun e => e)).trans (h4 j hj)⟩
theorem Parts.still {w w' : World} {v : Value} {ls : List (List UInt8)} (h : Parts w v ls) (k : Keeps (fun _ => False) w w') : Parts w' v ls := by
 obtain ⟨b, o, ad, cap, h1, h2, h3, h4⟩ := h
 refine ⟨b, o, ad, cap, h1, h2, h3, fun i hi => ?_⟩
 obtain ⟨vi, hc, hb⟩ := h4 i hi
 exact ⟨vi, (k.cell (p := ⟨b, o + i, none⟩) (cell_lt hc) (fun e => e)).trans hc, hb.still k⟩
def zeroMemCells : List Value := memCells (.slice none 0 0) (List.replicate 256 0)
theorem memCells_length (vs : Value) (cells : List Int) : (memCells vs cells).length = cells.length + 1 := by simp [memCells, wordCells]
theorem zeroMemCells_length : zeroMemCells.length = 257 := by unfold zeroMemCells; rw [memCells_length, List.length_replicate]
theorem memCells_one (vs : Value) (cells : List Int) (h : vs.oneCell' = true) : ∀ v ∈ memCells vs cells, v.oneCell' = true := by
 intro v hv
 simp only [memCells, wordCells, List.mem_cons, List.mem_map] at hv
 rcases hv with rfl | ⟨x, _, rfl⟩
 ·exact h
 ·rfl
end Dp
theorem infoSource : (Tryz.prog.info? 78).map (fun i => (i.zero, i.size, i.bytes)) = some (some (.slice none 0 0), 1, 24) := by kernel_rfl
set_option maxRecDepth 100000 in
set_option maxHeartbeats 1000000 in
theorem progMemNewErr (w : World) (vW vS : Value) (words : List Int) (srcs : List (List UInt8)) (hW : Dp.Ints w vW words) (h64 : ∀ x ∈ words, -9223372036854775808 ≤ x ∧ x ≤ 9223372036854775807) (hS : Dp.Parts w vS srcs) (hl : srcs.length ≤ 1048576) (hb : ∀ l ∈ srcs, l.length ≤ 1048576) (hok : Dp.newOk words srcs = false) :
  Calls Tryz.prog 55 #[vW, vS] w fun e w' => e = .returned (.tuple #[.agg Dp.zeroMemCells.toArray, .int .i64 1]) ∧ Dp.Keeps (fun _ => False) w w' := by
 rw [Dp.newOk_both] at hok
 have hbm := fun wx => buildMem wx
 go_enter Tryz.func55, Tryz.ntmps55
 go_wp2_with (refine Dp.wpList_alloc_row rfl 105 rfl _ zeroMem ?_)
 intro w1 r1 z1 k1
 have HR1 : Hid (Dp.Row w1 w.heap.size 105 ([] ++ Dp.zeroMemCells ++ [])) := Dp.row_nil r1
 clear r1
 go_wp2_with fail
 refine (progAreCells w1 vW words (hW.still k1) h64).mono ?_
 rintro e w2 ⟨rfl, rfl⟩
 cases h1 : Dp.wordsOk words with
 | false =>
  go_wp2_with (refine Dp.wpList_store_in rfl 105 _ _ rfl w.heap.size 0 rfl Dp.zeroMemCells rfl 105 [] _ [] HR1.out rfl rfl (by rw [sizeMem, Dp.zeroMemCells_length]) (Dp.memCells_one _ _ rfl) ?_)
  intro w3 r3 z3 k3
  go_wp2
  have r3' : Dp.Row w3 w.heap.size 105 Dp.zeroMemCells := by simpa using r3
  refine bodyPost_ret (v := .tuple #[.agg Dp.zeroMemCells.toArray, .int .i64 1]) (Dp.results_row_tmp (p := 4) (u := 5) (ty := 105) rfl _ _ w.heap.size 105 _ _ rfl r3' Tryz.underlying105 rfl (by rw [sizeMem, Dp.zeroMemCells_length])) rfl ⟨rfl, ?_⟩
  exact k1.next k3 (fun k hk e => by omega)
 | true =>
  have h2 : Dp.srcsOk srcs = false := by rw [h1] at hok; simpa using hok
  go_wp2_with fail
  refine (progAreSources w2 vS srcs (hS.still k1) hl hb).mono ?_
  rintro e w3 ⟨rfl, rfl⟩
  rw [h2]
  go_wp2_with (refine Dp.wpList_store_in rfl 105 _ _ rfl w.heap.size 0 rfl Dp.zeroMemCells rfl 105 [] _ [] HR1.out rfl rfl (by rw [sizeMem, Dp.zeroMemCells_length]) (Dp.memCells_one _ _ rfl) ?_)
  intro w4 r3 z3 k3
  go_wp2
  have r3' : Dp.Row w4 w.heap.size 105 Dp.zeroMemCells := by simpa using r3
  refine bodyPost_ret (v := .tuple #[.agg Dp.zeroMemCells.toArray, .int .i64 1]) (Dp.results_row_tmp (p := 4) (u := 5) (ty := 105) rfl _ _ w.heap.size 105 _ _ rfl r3' Tryz.underlying105 rfl (by rw [sizeMem, Dp.zeroMemCells_length])) rfl ⟨rfl, ?_⟩
  exact k1.next k3 (fun k hk e => by omega)
end Go.Proofs.YtdipojfngdceoaaGreatDoor
