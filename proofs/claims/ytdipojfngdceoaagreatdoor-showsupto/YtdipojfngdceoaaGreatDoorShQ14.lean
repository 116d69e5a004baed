/- Steps on the way: ProgMach, ProgRun, ProgRunM, ProgLabel. -/
import Derived.Test.YtdipojfngdceoaaGreatDoorShQ09
import Derived.Test.YtdipojfngdceoaaGreatDoorShQ11
import Derived.Test.YtdipojfngdceoaaGreatDoorShQ13
namespace Go.Proofs.YtdipojfngdceoaaGreatDoor
open Go.RowKit
namespace Dp
def stateCells (s : Cs) : List Value := [.int .u32 s.pc, .int .u32 s.steps, .int .u32 s.code, .bool s.over] ++ wordCells s.regs
theorem stateCells_length (s : Cs) (h : s.regs.length = 8) : (stateCells s).length = 12 := by simp [stateCells, wordCells, h]
theorem coreCells_state (s : Cs) (mem : Value) : coreCells s mem = stateCells s ++ [mem] := rfl
structure ProgM (w : World) (b : Nat) (G : Nat → Prop) (vs : Value) (m : Mach) : Prop where
 ok : m.Ok
 row : Row w b 107 (stateCells m.s ++ memCells vs m.cells)
 src : PartsIn G w vs m.srcs
 own : ∀ q, G q → q < w.heap.size ∧ q ≠ b
theorem ProgM.keep {S : Nat → Prop} {w w' : World} {b : Nat} {G : Nat → Prop} {vs : Value} {m : Mach} (h : ProgM w b G vs m) (k : Keeps S w w') (hb : ¬ S b) (hG : ∀ q, G q → ¬ S q) : ProgM w' b G vs m :=
 ⟨h.ok, h.row.keep k hb, h.src.keep k (fun q hq => ⟨(h.own q hq).1, hG q hq⟩), fun q hq => ⟨Nat.lt_of_lt_of_le (h.own q hq).1 k.size, (h.own q hq).2⟩⟩
theorem Mach.Ok.step {m : Mach} (h : m.Ok) : m.step.1.Ok := by
 unfold Mach.step
 split
 ·exact h
 split
 ·exact h
 simp only
 split
 ·split
  ·exact h
  ·split
   ·exact ⟨moved_ok h.s _ _ _ (by simp [isWord]), by simp [h.len], fun x hx => (List.mem_or_eq_of_mem_set hx).elim (h.cells x) (fun e => e ▸ h.s.reg _), h.srcs, h.src⟩
   ·exact ⟨moved_ok h.s _ _ _ (h.cell _), h.len, h.cells, h.srcs, h.src⟩
 ·split
  ·split
   ·exact h
   ·exact ⟨moved_ok h.s _ _ _ (told_bd _ _), h.len, h.cells, h.srcs, h.src⟩
  ·exact ⟨plain_ok h.s _, h.len, h.cells, h.srcs, h.src⟩
def CellsInv (w0 : World) (b : Nat) (G : Nat → Prop) (s0 : Cs) (vs : Value) (w : World) (m : List Int × List (List UInt8)) : Prop :=
 Row w b 107 (stateCells s0 ++ memCells vs m.1) ∧ PartsIn G w vs m.2 ∧ Keeps (fun k => k = b) w0 w ∧ m.1.length = 256 ∧ ∀ x ∈ m.1, isWord x
end Dp
theorem callCLoad (b o : Nat) (n : Value) (wx : World) : (callMethod (.iface 129 (.pointer (some ⟨b, o, none⟩))) "Load" #[n]).run Tryz.prog wx = .ok (.enter 91 #[.pointer (some ⟨b, o, none⟩), n]) wx := by kernel_rfl
theorem callCStore (b o : Nat) (n v : Value) (wx : World) : (callMethod (.iface 129 (.pointer (some ⟨b, o, none⟩))) "Store" #[n, v]).run Tryz.prog wx = .ok (.enter 171 #[.pointer (some ⟨b, o, none⟩), n, v]) wx := by kernel_rfl
theorem callCSource (b o : Nat) (n : Value) (wx : World) : (callMethod (.iface 129 (.pointer (some ⟨b, o, none⟩))) "Source" #[n]).run Tryz.prog wx = .ok (.enter 170 #[.pointer (some ⟨b, o, none⟩), n]) wx := by kernel_rfl
namespace Dp
theorem cellsOk (w0 : World) (b p : Nat) (G : Nat → Prop) (s0 : Cs) (vs : Value) (hl : s0.regs.length = 8) (hb : b < w0.heap.size) (hp : w0.heap.size ≤ p) (hG : ∀ q, G q → q < w0.heap.size ∧ q ≠ b) :
  MemOk Tryz.prog p 129 (.pointer (some ⟨b, 12, none⟩)) cellsMemo (fun _ k => k = b) (CellsInv w0 b G s0 vs) (CellsInv w0 b G s0 vs) (fun _ => False) [] where
 keep := by
  intro w w' m h k
  obtain ⟨h1, h2, h3, h4⟩ := h
  refine ⟨⟨h1.keep k (by omega), h2.keep k (fun q hq => ?_), h3.next k (fun i hi e => by omega), h4⟩, fun _ e => e⟩
  have := hG q hq
  have := h3.size
  omega
 keep' := by
  intro w w' m h k
  obtain ⟨h1, h2, h3, h4⟩ := h
  refine ⟨h1.keep k (by omega), h2.keep k (fun q hq => ?_), h3.next k (fun i hi e => by omega), h4⟩
  have := hG q hq
  have := h3.size
  omega
 le := fun h => h
 foot := by
  intro w m k h e
  have := h.1.lt
  subst e
  exact ⟨this, by omega⟩
 word := by
  intro w m n r h hn hr
  simp only [cellsMemo, Option.some.injEq] at hr
  subst hr
  simp only
  split
  ·simp [isWord]
  ·have hlen := h.2.2.2.1
   rw [List.getD_eq_getElem?_getD]
   cases e : m.1[n.toNat]? with
   | none => simp [isWord]
   | some x => exact h.2.2.2.2 x (List.mem_of_getElem? e)
 load := by
  intro w m n hn h
  refine ⟨91, _, callCLoad b 12 _, ?_⟩
  have hrow : Row w b 107 (stateCells s0 ++ memCells vs m.1 ++ []) := by rw [List.append_nil]; exact h.1
  refine (progCellsLoad w b 12 _ _ _ vs m.1 n h.2.2.2.1 hrow (stateCells_length s0 hl) hn h.2.2.2.2).mono ?_
  rintro e w' ⟨rfl, rfl⟩
  have hword : isWord (if n ≥ 256 then 0 else m.1.getD n.toNat 0) := by
   split
   ·simp [isWord]
   ·rw [List.getD_eq_getElem?_getD]
    cases e : m.1[n.toNat]? with
    | none => simp [isWord]
    | some x => exact h.2.2.2.2 x (List.mem_of_getElem? e)
  show _ ∧ _
  by_cases hz : n ≥ 256
  ·simp only [hz, if_true] at hword ⊢
   exact ⟨trivial, hword, by omega, h, Keeps.refl _ _⟩
  ·simp only [hz, if_false] at hword ⊢
   exact ⟨trivial, hword, by omega, h, Keeps.refl _ _⟩
 store := by
  intro w m n v hn hv h
  refine ⟨171, _, callCStore b 12 _ _, ?_⟩
  have hrow : Row w b 107 (stateCells s0 ++ memCells vs m.1 ++ []) := by rw [List.append_nil]; exact h.1
  refine (progCellsStore w b 12 _ _ _ vs m.1 n v h.2.2.2.1 hrow (stateCells_length s0 hl) hn).mono ?_
  rintro e w' ⟨rfl, hr, hk⟩
  rw [List.append_nil] at hr
  have hsrc : PartsIn G w' vs m.2 := h.2.1.keep hk (fun q hq => ⟨Nat.lt_of_lt_of_le (hG q hq).1 h.2.2.1.size, (hG q hq).2⟩)
  have hkk := h.2.2.1.trans hk
  show _ ∧ _
  by_cases hz : n ≥ 256
  ·simp only [hz, if_true] at hr ⊢
   exact ⟨trivial, by omega, ⟨hr, hsrc, hkk, h.2.2.2⟩, hk⟩
  ·simp only [hz, if_false] at hr ⊢
   exact ⟨trivial, by omega, ⟨hr, hsrc, hkk, by simp [h.2.2.2.1], fun x hx => (List.mem_or_eq_of_mem_set hx).elim (h.2.2.2.2 x) (fun e => e ▸ hv)⟩, hk⟩
 source := by
  intro w m n hn h
  refine ⟨170, _, callCSource b 12 _, ?_⟩
  have hrow : Row w b 107 (stateCells s0 ++ memCells vs m.1 ++ []) := by rw [List.append_nil]; exact h.1
  refine (progSource G w b 12 vs m.2 n (memCells_srcs hrow (stateCells_length s0 hl)) h.2.1 (fun q hq => Nat.lt_of_lt_of_le (hG q hq).1 h.2.2.1.size)).mono ?_
  rintro e w' ⟨⟨v, rfl, hv⟩, hk⟩
  have hi : CellsInv w0 b G s0 vs w' m := ⟨h.1.keep hk (fun e => e), h.2.1.keep hk (fun q hq => ⟨Nat.lt_of_lt_of_le (hG q hq).1 h.2.2.1.size, fun e => e⟩), h.2.2.1.next hk (fun _ _ e => e.elim), h.2.2.2⟩
  show _ ∧ _
  cases hf : findSrc m.2 n with
  | none =>
   rw [hf] at hv
   simp only [srcErr]
   exact ⟨⟨v, rfl, hv⟩, by omega, hi, hk.mono (fun _ _ e => e.elim)⟩
  | some l =>
   rw [hf] at hv
   simp only [srcErr]
   exact ⟨⟨v, rfl, hv⟩, by omega, hi, hk.mono (fun _ _ e => e.elim)⟩
end Dp
namespace Dp
theorem Mach.Ok.after {m : Mach} (h : m.Ok) : ∀ k, (Mach.after m k).Ok
 | 0 => h
 | k + 1 => (Mach.Ok.after h k).step
end Dp
theorem progStepCells (w0 : World) (b p : Nat) (G : Nat → Prop) (s0 : Dp.Cs) (vs : Value) (hl : s0.regs.length = 8) (hb : b < w0.heap.size) (hp : w0.heap.size ≤ p) (hG : ∀ q, G q → q < w0.heap.size ∧ q ≠ b) (m : Dp.Mach) (hok : m.Ok) (w : World)
  (hr : Dp.Row w p 137 (Dp.coreCells m.s (.iface 129 (.pointer (some ⟨b, 12, none⟩))))) (hI : Dp.CellsInv w0 b G s0 vs w (m.cells, m.srcs)) :
  Calls Tryz.prog 98 #[.pointer (some ⟨p, 0, none⟩)] w fun e w' => e = .returned (.int .i64 m.step.2) ∧ Dp.Row w' p 137 (Dp.coreCells m.step.1.s (.iface 129 (.pointer (some ⟨b, 12, none⟩)))) ∧ Dp.CellsInv w0 b G s0 vs w' (m.step.1.cells, m.step.1.srcs) := by
 refine (progStep Dp.cellsMemo (fun _ k => k = b) (Dp.CellsInv w0 b G s0 vs) (Dp.CellsInv w0 b G s0 vs) (Dp.CellsInv w0 b G s0 vs) (fun _ => False) [] 129 (.pointer (some ⟨b, 12, none⟩)) m.s p w (m.cells, m.srcs) hok.s (Dp.cellsOk w0 b p G s0 vs hl hb hp hG) (Dp.cellsOk w0 b p G s0 vs hl hb hp hG) hr hI).mono ?_
 intro e w' h
 rw [Dp.coreStep_cells m] at h
 exact h
set_option maxRecDepth 100000 in
set_option maxHeartbeats 1000000 in
theorem progCoreRun (w0 : World) (b p : Nat) (G : Nat → Prop) (s0 : Dp.Cs) (vs : Value) (hl : s0.regs.length = 8) (hb : b < w0.heap.size) (hp : w0.heap.size ≤ p) (hG : ∀ q, G q → q < w0.heap.size ∧ q ≠ b) (m : Dp.Mach) (hok : m.Ok) (w : World)
  (hr : Dp.Row w p 137 (Dp.coreCells m.s (.iface 129 (.pointer (some ⟨b, 12, none⟩))))) (hI : Dp.CellsInv w0 b G s0 vs w (m.cells, m.srcs)) (n : Nat) (hn : n ≤ 100000) :
  Calls Tryz.prog 77 #[.pointer (some ⟨p, 0, none⟩), .int .i64 n] w fun e w' => e = .returned (.tuple #[.int .i64 ((Dp.Mach.run n m).2.1 : Int), .int .i64 (Dp.Mach.run n m).2.2]) ∧ Dp.Row w' p 137 (Dp.coreCells (Dp.Mach.run n m).1.s (.iface 129 (.pointer (some ⟨b, 12, none⟩)))) ∧ Dp.CellsInv w0 b G s0 vs w' ((Dp.Mach.run n m).1.cells, (Dp.Mach.run n m).1.srcs) := by
 go_enter Tryz.func77, Tryz.ntmps77
 go_wp2
 go_loopw [6, 7, 9] (fun _ _ i wr => ∃ k : Nat, k ≤ n ∧ i = .int .i64 k ∧ (∀ j, j < k → ((Dp.Mach.after m j).s.over = false ∧ (Dp.Mach.after m j).step.2 = 0)) ∧ Dp.Row wr p 137 (Dp.coreCells (Dp.Mach.after m k).s (.iface 129 (.pointer (some ⟨b, 12, none⟩)))) ∧ Dp.CellsInv w0 b G s0 vs wr ((Dp.Mach.after m k).cells, (Dp.Mach.after m k).srcs)) (fun _ _ i _ => n - (intOf i).toNat)
 case atStart => exact ⟨0, Nat.zero_le _, rfl, fun j hj => absurd hj (by omega), hr, hI⟩
 case round =>
  obtain ⟨k, hk, rfl, hno, hrk, hIk⟩ := hrel
  have HR := Hid.mk_ (Dp.Mach.run_reach _ k m hno rfl)
  have HNO := Hid.mk_ hno
  have hokk := hok.after k
  clear hno
  by_cases hlt : k < n
  ·obtain ⟨_, _, _, c3⟩ := hrk.core
   have hnk := HR.out (n - k)
   rw [show k + (n - k) = n by omega, show n - k = (n - k - 1) + 1 by omega] at hnk
   have HN := Hid.mk_ hnk
   clear hnk
   cases hov : (Dp.Mach.after m k).s.over with
   | true =>
    rw [hov] at c3
    have hrun : Dp.Mach.run (n - k - 1 + 1) (Dp.Mach.after m k) = (Dp.Mach.after m k, 0, 0) := by unfold Dp.Mach.run; rw [if_pos hov]
    have HX : Hid (Dp.Mach.run n m = (Dp.Mach.after m k, 0 + k, 0)) := by unfold Hid; rw [HN.out, hrun]
    go_wp2
    go_ret2
    rw [HX.out]
    exact ⟨by simp, hrk, hIk⟩
   | false =>
    rw [hov] at c3
    go_wp2_with fail
    refine (progStepCells w0 b p G s0 vs hl hb hp hG (Dp.Mach.after m k) hokk wr hrk hIk).mono ?_
    rintro e w2 ⟨rfl, hr2, hI2⟩
    by_cases hz : (Dp.Mach.after m k).step.2 = 0
    ·rw [hz]
     have HNO2 : Hid (∀ j, j < k + 1 → ((Dp.Mach.after m j).s.over = false ∧ (Dp.Mach.after m j).step.2 = 0)) := by
      intro j hj
      by_cases e : j = k
      ·subst e; exact ⟨hov, hz⟩
      ·exact HNO.out j (by omega)
     clear c3
     go_wp2
     go_roundw
     case rel => exact ⟨k + 1, by omega, by go_num, HNO2.out, hr2, hI2⟩
     case measure => simp [intOf]; omega
    ·have hs := Dp.step_same _ hz
     have hrun : Dp.Mach.run (n - k - 1 + 1) (Dp.Mach.after m k) = (Dp.Mach.after m k, 0, (Dp.Mach.after m k).step.2) := by unfold Dp.Mach.run; rw [if_neg (by rw [hov]; decide), if_pos hz]
     have HX : Hid (Dp.Mach.run n m = (Dp.Mach.after m k, 0 + k, (Dp.Mach.after m k).step.2)) := by unfold Hid; rw [HN.out, hrun]
     rw [hs] at hr2 hI2
     generalize (Dp.Mach.after m k).step.2 = er at *
     clear c3
     go_wp2
     go_ret2
     rw [HX.out]
     exact ⟨by simp, hr2, hI2⟩
  ·obtain rfl : k = n := by omega
   have hrun := HR.out 0
   have HX : Hid (Dp.Mach.run k m = (Dp.Mach.after m k, 0 + k, 0)) := by
    unfold Hid
    rw [show k + 0 = k by omega] at hrun
    rw [hrun]; rfl
   go_wp2
   go_ret2
   rw [HX.out]
   exact ⟨by simp, hrk, hIk⟩
namespace Dp
theorem list8 {l : List Int} (h : l.length = 8) : ∃ r0 r1 r2 r3 r4 r5 r6 r7, l = [r0, r1, r2, r3, r4, r5, r6, r7] := by
 match l, h with
 | [r0, r1, r2, r3, r4, r5, r6, r7], _ => exact ⟨r0, r1, r2, r3, r4, r5, r6, r7, rfl⟩
theorem Mach.Ok.run : ∀ (n : Nat) {m : Mach}, m.Ok → (Mach.run n m).1.Ok
 | 0, _, h => h
 | n + 1, m, h => by
  unfold Mach.run
  split
  ·exact h
  ·split
   ·exact h
   ·exact Mach.Ok.run n h.step
theorem stateCells_one (s : Cs) : ∀ v ∈ stateCells s, v.oneCell' = true := by
 intro v hv
 simp only [stateCells, wordCells, List.mem_append, List.mem_cons, List.not_mem_nil, or_false, List.mem_map] at hv
 rcases hv with (rfl | rfl | rfl | rfl) | ⟨x, _, rfl⟩ <;> rfl
end Dp
theorem zeroCore : (Tryz.prog.info? 137).map (fun i => i.zero) = some (some (.agg (Dp.coreCells ⟨0, 0, 0, false, [0, 0, 0, 0, 0, 0, 0, 0]⟩ .nilIface).toArray)) := by kernel_rfl
theorem sizeCore : (Tryz.prog.info? 137).map (·.size) = some 13 := by kernel_rfl
theorem sizePState : (Tryz.prog.info? 100).map (·.size) = some 12 := by kernel_rfl
set_option maxRecDepth 100000 in
set_option maxHeartbeats 1000000 in
theorem progRunM (w : World) (b : Nat) (G : Nat → Prop) (vs : Value) (m : Dp.Mach) (h : Dp.ProgM w b G vs m) (n : Nat) (hn : n ≤ 100000) :
  Calls Tryz.prog 52 #[.pointer (some ⟨b, 0, none⟩), .int .i64 n] w fun e w' => e = .returned (.tuple #[.int .i64 ((Dp.Mach.run n m).2.1 : Int), .int .i64 (Dp.Mach.run n m).2.2]) ∧ Dp.Keeps (fun k => k = b) w w' ∧ Dp.ProgM w' b G vs (Dp.Mach.run n m).1 := by
 have H := Hid.mk_ h
 have hrow := h.row
 have hlen := h.ok.s.len
 clear h
 obtain ⟨⟨pc, st, co, ov, regs⟩, cells, srcs⟩ := m
 obtain ⟨r0, r1, r2, r3, r4, r5, r6, r7, rfl⟩ := Dp.list8 hlen
 have q0 : ∀ wx, Dp.Keeps (fun _ => False) w wx → wx.cell? ⟨b, 0, none⟩ = some (.int .u32 pc) := fun wx kx => by rw [(hrow.keep kx (fun e => e)).cell]; rfl
 have q1 : ∀ wx, Dp.Keeps (fun _ => False) w wx → wx.cell? ⟨b, 1, none⟩ = some (.int .u32 st) := fun wx kx => by rw [(hrow.keep kx (fun e => e)).cell]; rfl
 have q2 : ∀ wx, Dp.Keeps (fun _ => False) w wx → wx.cell? ⟨b, 2, none⟩ = some (.int .u32 co) := fun wx kx => by rw [(hrow.keep kx (fun e => e)).cell]; rfl
 have q3 : ∀ wx, Dp.Keeps (fun _ => False) w wx → wx.cell? ⟨b, 3, none⟩ = some (.bool ov) := fun wx kx => by rw [(hrow.keep kx (fun e => e)).cell]; rfl
 have q4 : ∀ wx, Dp.Keeps (fun _ => False) w wx → wx.cell? ⟨b, 4, none⟩ = some (.int .u32 r0) := fun wx kx => by rw [(hrow.keep kx (fun e => e)).cell]; rfl
 have q5 : ∀ wx, Dp.Keeps (fun _ => False) w wx → wx.cell? ⟨b, 5, none⟩ = some (.int .u32 r1) := fun wx kx => by rw [(hrow.keep kx (fun e => e)).cell]; rfl
 have q6 : ∀ wx, Dp.Keeps (fun _ => False) w wx → wx.cell? ⟨b, 6, none⟩ = some (.int .u32 r2) := fun wx kx => by rw [(hrow.keep kx (fun e => e)).cell]; rfl
 have q7 : ∀ wx, Dp.Keeps (fun _ => False) w wx → wx.cell? ⟨b, 7, none⟩ = some (.int .u32 r3) := fun wx kx => by rw [(hrow.keep kx (fun e => e)).cell]; rfl
 have q8 : ∀ wx, Dp.Keeps (fun _ => False) w wx → wx.cell? ⟨b, 8, none⟩ = some (.int .u32 r4) := fun wx kx => by rw [(hrow.keep kx (fun e => e)).cell]; rfl
 have q9 : ∀ wx, Dp.Keeps (fun _ => False) w wx → wx.cell? ⟨b, 9, none⟩ = some (.int .u32 r5) := fun wx kx => by rw [(hrow.keep kx (fun e => e)).cell]; rfl
 have q10 : ∀ wx, Dp.Keeps (fun _ => False) w wx → wx.cell? ⟨b, 10, none⟩ = some (.int .u32 r6) := fun wx kx => by rw [(hrow.keep kx (fun e => e)).cell]; rfl
 have q11 : ∀ wx, Dp.Keeps (fun _ => False) w wx → wx.cell? ⟨b, 11, none⟩ = some (.int .u32 r7) := fun wx kx => by rw [(hrow.keep kx (fun e => e)).cell]; rfl
 have hS0 : Dp.Keeps (fun _ => False) w w.drew := (Dp.Keeps.refl _ _).drew
 go_enter Tryz.func52, Tryz.ntmps52
 go_wp2
 refine Dp.wp_region_L (fun wx => Dp.Keeps (fun _ => False) w wx) 10 mixedP ?_
 refine' Dp.tj 0 hS0 ?_
 simp only [Act.put, Dp.tks]
 refine' Dp.tj 1 hS0 ?_
 simp only [Act.put, Dp.tks]
 refine' Dp.tj 2 hS0 ?_
 simp only [Act.put, Dp.tks]
 refine' Dp.tj 3 hS0 ?_
 simp only [Act.put, Dp.tks]
 refine' Dp.tj 4 hS0 ?_
 simp only [Act.put, Dp.tks]
 refine' Dp.tj 5 hS0 ?_
 simp only [Act.put, Dp.tks]
 refine' Dp.tj 6 hS0 ?_
 simp only [Act.put, Dp.tks]
 refine' Dp.tj 7 hS0 ?_
 simp only [Act.put, Dp.tks]
 refine' Dp.tj 8 hS0 ?_
 simp only [Act.put, Dp.tks]
 refine Dp.wpAnyL_one 9 rfl (by kernel_rfl) (by rfl) (fun K hK => ?_)
 refine Dp.wp_alloc_row 137 rfl _ zeroCore ?_
 intro w1 c1 z1 k1
 have hw1 := hS0.trans k1
 refine hK _ _ ⟨fun _ => hw1, ?_⟩
 clear hK K q0 q1 q2 q3 q4 q5 q6 q7 q8 q9 q10 q11 hS0
 simp only [Act.put, Dp.tks]
 refine Dp.wpAnyL_rest (by kernel_rfl) ?_
 refine Dp.wpAny_tail 10 rfl (by kernel_rfl) ?_
 simp only [List.drop_succ_cons, List.drop_zero]
 have HT := Hid.mk_ (Dp.row_nil c1)
 refine Dp.wpList_store_in rfl 137 _ _ rfl w.heap.size 0 rfl (Dp.coreCells ⟨pc, st, co, ov, [r0, r1, r2, r3, r4, r5, r6, r7]⟩ (.iface 129 (.pointer (some ⟨b, 12, none⟩)))) rfl 137 [] _ [] HT.out rfl rfl sizeCore (by intro v hv; simp [Dp.coreCells, Dp.wordCells] at hv; rcases hv with rfl | rfl | rfl | rfl | rfl | rfl | rfl | rfl | rfl | rfl | rfl | rfl | rfl <;> rfl) ?_
 intro w2 c2 z2 k2
 have c2' : Dp.Row w2 w.heap.size 137 (Dp.coreCells ⟨pc, st, co, ov, [r0, r1, r2, r3, r4, r5, r6, r7]⟩ (.iface 129 (.pointer (some ⟨b, 12, none⟩)))) := by simpa using c2
 have hb := hrow.lt
 have hKb : Dp.Keeps (fun k => k = b) w w2 := (hw1.mono (fun _ _ e => e.elim)).next k2 (fun k hk e => by omega)
 have hGw : ∀ q, G q → q < w.heap.size ∧ q ≠ b := H.out.own
 have hI2 : Dp.CellsInv w b G ⟨pc, st, co, ov, [r0, r1, r2, r3, r4, r5, r6, r7]⟩ vs w2 (cells, srcs) := by
  refine ⟨(hrow.keep hw1 (fun e => e)).keep k2 (by omega), (H.out.src.keep hw1 (fun q hq => ⟨(hGw q hq).1, fun e => e⟩)).keep k2 (fun q hq => ?_), hKb, H.out.ok.len, H.out.ok.cells⟩
  have := hGw q hq
  have := hw1.size
  omega
 clear c1 c2 HT k1 k2 hw1 z1 z2
 have hokm := Hid.mk_ H.out.ok
 generalize hm : (⟨⟨pc, st, co, ov, [r0, r1, r2, r3, r4, r5, r6, r7]⟩, cells, srcs⟩ : Dp.Mach) = m at *
 have hms : (⟨pc, st, co, ov, [r0, r1, r2, r3, r4, r5, r6, r7]⟩ : Dp.Cs) = m.s := by rw [← hm]
 have hmc : cells = m.cells := by rw [← hm]
 have hmr : srcs = m.srcs := by rw [← hm]
 have HM := Hid.mk_ hm
 clear hm
 rw [hms] at c2'
 rw [hms, hmc, hmr] at hI2
 go_wp2_with fail
 refine (progCoreRun w b w.heap.size G m.s vs (by rw [← hms]; rfl) hb (Nat.le_refl _) hGw m hokm.out w2 c2' hI2 n hn).mono ?_
 rintro e w3 ⟨rfl, c3, hI3⟩
 have hok3 := Hid.mk_ (hokm.out.run n)
 generalize hR : Dp.Mach.run n m = R at *
 have HRR := Hid.mk_ hR
 clear hR
 obtain ⟨h31, h32, h33, h34⟩ := hI3
 have HL3 : Hid ((Dp.stateCells R.1.s).length = 12) := Dp.stateCells_length _ hok3.out.s.len
 have HL0 : Hid ((Dp.stateCells m.s).length = 12) := Dp.stateCells_length _ hokm.out.s.len
 have HC3 : Hid (Dp.Row w3 w.heap.size 137 ([] ++ Dp.stateCells R.1.s ++ [.iface 129 (.pointer (some ⟨b, 12, none⟩))])) := c3
 have HB3 : Hid (Dp.Row w3 b 107 ([] ++ Dp.stateCells m.s ++ Dp.memCells vs R.1.cells)) := h31
 clear c2' hI2 c3 h31
 go_wp2_with (refine Dp.wpList_load_in rfl 100 _ rfl w.heap.size 0 rfl 137 [] _ _ HC3.out rfl _ Tryz.underlying100 rfl (by rw [sizePState, HL3.out]) ?_)
 intro _
 go_wp2_with (refine Dp.wpList_store_in rfl 100 _ _ rfl b 0 rfl (Dp.stateCells R.1.s) rfl 107 [] _ _ HB3.out rfl (by rw [HL3.out, HL0.out]) (by rw [sizePState, HL3.out]) (Dp.stateCells_one _) ?_)
 intro w4 c4 z4 k4
 go_wp2
 go_ret2
 have hk4 := h33.trans k4
 rw [HM.out, HRR.out]
 exact ⟨rfl, hk4, ⟨hok3.out, c4, h32.keep k4 (fun q hq => ⟨Nat.lt_of_lt_of_le (hGw q hq).1 h33.size, (hGw q hq).2⟩), fun q hq => ⟨Nat.lt_of_lt_of_le (hGw q hq).1 hk4.size, (hGw q hq).2⟩⟩⟩
namespace Dp
theorem vals_append (a b : List UInt8) : vals a ++ vals b = vals (a ++ b) := by simp [vals]
theorem vals_one (l : List UInt8) : ∀ u ∈ vals l, u.oneCell' = true := by
 intro u hu
 simp only [vals, List.mem_map] at hu
 obtain ⟨b, _, rfl⟩ := hu
 rfl
theorem vals_news {w : World} {g : Nat} {e : TypeId} {l : List UInt8} (h : Row w g e (vals l)) : ∀ j u, (vals l)[j]? = some u → w.cell? ((⟨g, 0, none⟩ : Addr).add j) = some u := by
 intro j u hj
 rw [add_zero_off, h.cell]; exact hj
theorem Row.state {w : World} {g : Nat} {e : TypeId} {s : Cs} (h : Row w g e (stateCells s)) : w.cell? ⟨g, 0, none⟩ = some (.int .u32 s.pc) ∧ w.cell? ⟨g, 1, none⟩ = some (.int .u32 s.steps) ∧ w.cell? ⟨g, 2, none⟩ = some (.int .u32 s.code) ∧ w.cell? ⟨g, 3, none⟩ = some (.bool s.over) := by
 refine ⟨?_, ?_, ?_, ?_⟩ <;> (rw [h.cell]; rfl)
theorem oneByte (b : Bool) : vals [if b then 1 else 0] = [.int .u8 (one b)] := by cases b <;> rfl
end Dp
theorem sizeRegs32 : (Tryz.prog.info? 98).map (·.size) = some 8 := by kernel_rfl
set_option maxRecDepth 100000 in
set_option maxHeartbeats 1000000 in
theorem progLabel (s : Dp.Cs) (root : Int) (w : World) (hs : s.Ok) (hr : 0 ≤ root ∧ root < 65536) :
  Calls Tryz.prog 73 #[.agg (Dp.stateCells s).toArray, .int .i64 root] w fun e w' => (∃ v, e = .returned v ∧ Dp.Own w' 5 v (Dp.vals (Dp.label s root)) ∧ ∀ g, v.ownBlock = some g → w.heap.size ≤ g) ∧ Dp.Keeps (fun _ => False) w w' := by
 go_enter Tryz.func73, Tryz.ntmps73
 go_wp2_with (refine Dp.wpList_box_row rfl 100 _ rfl (Dp.stateCells s) rfl ?_)
 intro w1 x1 z1 k1
 go_wp2_with (at_make; refine Dp.wpList_make_cap _ rfl _ _ 47 rfl 5 (.int .u8 0) 1 Tryz.underlying47 infoU8 rfl _ _ _ 47 rfl rfl (by omega) (by omega) (by unfold maxLen; omega) ?_)
 intro v0 w2 o2 ob2 z2 k2
 have x2 := x1.keep k2 (fun e => e)
 have kr2 := k1.trans k2
 have HF2 : Hid (∀ g, v0.ownBlock = some g → w.heap.size ≤ g) := fun g hg => by rw [ob2] at hg; simp at hg; omega
 clear x1 k1 k2 ob2 z1 z2
 have o2' : Dp.Own w2 5 v0 (Dp.vals []) := o2
 clear o2
 obtain ⟨c0, c1, c2, c3⟩ := x2.state
 go_wp2_with fail
 refine (progWord s.pc _ hs.pc).mono ?_
 rintro e wa2 ⟨rfl, ra2, za2, ka2⟩
 clear c0 c1 c2 c3
 have oa2 := o2'.keep ka2 (fun _ _ e => e)
 have xa2 := x2.keep ka2 (fun e => e)
 have NW := Hid.mk_ (Dp.vals_news ra2)
 go_wp2_with (at_builtin; refine Dp.wpList_append_Own rfl _ _ 47 rfl 5 (.int .u8 0) 1 Tryz.underlying47 infoU8 rfl v0 (Dp.vals ([])) rfl oa2 ⟨w2.heap.size, 0, none⟩ 4 4 (Dp.vals (Dp.four s.pc)) rfl rfl NW.out (Dp.vals_one _) (by omega) (by simp [Dp.vals, maxLen]) (by simp [Dp.vals]) ?_)
 intro vb2 wb2 ob2 kb2 sb2
 rw [Dp.vals_append] at ob2
 have xb2 := xa2.keep kb2 (fun e => oa2.ne xa2 (by decide) _ e rfl)
 have krb2 := (kr2.trans ka2).next kb2 (fun i hi e => by have := HF2.out i e; omega)
 have HFb2 : Hid (∀ g, vb2.ownBlock = some g → w.heap.size ≤ g) := fun g hg => by
  have hsz := (kr2.trans ka2).size
  rcases sb2.out with hh | hh
  ·exact HF2.out g (hh.1 ▸ hg)
  ·rw [hh.1] at hg; simp at hg; omega
 clear oa2 xa2 ra2 za2 ka2 kb2 sb2 o2' x2 kr2 HF2 NW
 obtain ⟨c0, c1, c2, c3⟩ := xb2.state
 go_wp2_with fail
 refine (progWord s.steps _ hs.steps).mono ?_
 rintro e wa3 ⟨rfl, ra3, za3, ka3⟩
 clear c0 c1 c2 c3
 have oa3 := ob2.keep ka3 (fun _ _ e => e)
 have xa3 := xb2.keep ka3 (fun e => e)
 have NW := Hid.mk_ (Dp.vals_news ra3)
 go_wp2_with (at_builtin; refine Dp.wpList_append_Own rfl _ _ 47 rfl 5 (.int .u8 0) 1 Tryz.underlying47 infoU8 rfl vb2 (Dp.vals ([] ++ Dp.four s.pc)) rfl oa3 ⟨wb2.heap.size, 0, none⟩ 4 4 (Dp.vals (Dp.four s.steps)) rfl rfl NW.out (Dp.vals_one _) (by omega) (by simp [Dp.vals, maxLen, Dp.four_length]) (by simp [Dp.vals, Dp.four_length]) ?_)
 intro vb3 wb3 ob3 kb3 sb3
 rw [Dp.vals_append] at ob3
 have xb3 := xa3.keep kb3 (fun e => oa3.ne xa3 (by decide) _ e rfl)
 have krb3 := (krb2.trans ka3).next kb3 (fun i hi e => by have := HFb2.out i e; omega)
 have HFb3 : Hid (∀ g, vb3.ownBlock = some g → w.heap.size ≤ g) := fun g hg => by
  have hsz := (krb2.trans ka3).size
  rcases sb3.out with hh | hh
  ·exact HFb2.out g (hh.1 ▸ hg)
  ·rw [hh.1] at hg; simp at hg; omega
 clear oa3 xa3 ra3 za3 ka3 kb3 sb3 ob2 xb2 krb2 HFb2 NW
 obtain ⟨c0, c1, c2, c3⟩ := xb3.state
 go_wp2_with fail
 refine (progWord s.code _ hs.code).mono ?_
 rintro e wa4 ⟨rfl, ra4, za4, ka4⟩
 clear c0 c1 c2 c3
 have oa4 := ob3.keep ka4 (fun _ _ e => e)
 have xa4 := xb3.keep ka4 (fun e => e)
 have NW := Hid.mk_ (Dp.vals_news ra4)
 go_wp2_with (at_builtin; refine Dp.wpList_append_Own rfl _ _ 47 rfl 5 (.int .u8 0) 1 Tryz.underlying47 infoU8 rfl vb3 (Dp.vals ([] ++ Dp.four s.pc ++ Dp.four s.steps)) rfl oa4 ⟨wb3.heap.size, 0, none⟩ 4 4 (Dp.vals (Dp.four s.code)) rfl rfl NW.out (Dp.vals_one _) (by omega) (by simp [Dp.vals, maxLen, Dp.four_length]) (by simp [Dp.vals, Dp.four_length]) ?_)
 intro vb4 wb4 ob4 kb4 sb4
 rw [Dp.vals_append] at ob4
 have xb4 := xa4.keep kb4 (fun e => oa4.ne xa4 (by decide) _ e rfl)
 have krb4 := (krb3.trans ka4).next kb4 (fun i hi e => by have := HFb3.out i e; omega)
 have HFb4 : Hid (∀ g, vb4.ownBlock = some g → w.heap.size ≤ g) := fun g hg => by
  have hsz := (krb3.trans ka4).size
  rcases sb4.out with hh | hh
  ·exact HFb3.out g (hh.1 ▸ hg)
  ·rw [hh.1] at hg; simp at hg; omega
 clear oa4 xa4 ra4 za4 ka4 kb4 sb4 ob3 xb3 krb3 HFb3 NW
 obtain ⟨c0, c1, c2, c3⟩ := xb4.state
 have hone : 0 ≤ Dp.one s.over ∧ Dp.one s.over < 2 := by cases s.over <;> decide
 obtain ⟨bt, hbt⟩ : ∃ bt : UInt8, bt = if s.over then 1 else 0 := ⟨_, rfl⟩
 have HOB : Hid (Dp.vals [bt] = [.int .u8 (Dp.one s.over)]) := by unfold Hid; rw [hbt]; exact Dp.oneByte _
 have HBT := Hid.mk_ hbt
 clear hbt
 go_wp2_with fail
 refine (progOne s.over _).mono ?_
 rintro e w5 ⟨rfl, rfl⟩
 clear c0 c1 c2 c3
 generalize Dp.one s.over = on at *
 have N5 : Hid (∀ j u, (Dp.vals [bt])[j]? = some u → (w5.alloc (.cells #[.int .u8 on] 5)).cell? ((⟨w5.heap.size, 0, none⟩ : Addr).add j) = some u) := by
  refine Dp.vals_news (e := 5) ?_
  rw [HOB.out]; exact Dp.Row.allocNew w5 5 [.int .u8 on]
 have o5 := ob4.alloc (.cells #[.int .u8 on] 5)
 have x5 := xb4.allocOld (.cells #[.int .u8 on] 5)
 have k5 := krb4.alloc (.cells #[.int .u8 on] 5)
 go_wp2_with (at_builtin; refine Dp.wpList_append_Own rfl _ _ 47 rfl 5 (.int .u8 0) 1 Tryz.underlying47 infoU8 rfl vb4 (Dp.vals ([] ++ Dp.four s.pc ++ Dp.four s.steps ++ Dp.four s.code)) rfl o5 ⟨w5.heap.size, 0, none⟩ 1 1 (Dp.vals [bt]) rfl rfl N5.out (Dp.vals_one _) (by omega) (by simp [Dp.vals, maxLen, Dp.four_length]) (by simp [Dp.vals, Dp.four_length]) ?_)
 intro v6 w6 o6 k6 s6
 rw [Dp.vals_append] at o6
 have hn5 : ¬ vb4.ownBlock = some w.heap.size := fun e => o5.ne x5 (by decide) _ e rfl
 have x6 := Dp.Row.keep (S := fun k => vb4.ownBlock = some k) x5 k6 hn5
 have kr6 := k5.next k6 (fun i hi e => by have := HFb4.out i e; omega)
 have HF6 : Hid (∀ g, v6.ownBlock = some g → w.heap.size ≤ g) := fun g hg => by
  have hsz := k5.size
  rcases s6.out with hh | hh
  ·exact HFb4.out g (hh.1 ▸ hg)
  ·rw [hh.1] at hg; simp at hg; simp at hsz; omega
 clear ob4 xb4 krb4 HFb4 N5 o5 x5 k5 k6 s6 hone HOB hn5
 have HX6 : Hid (Dp.Row w6 w.heap.size 100 ([.int .u32 s.pc, .int .u32 s.steps, .int .u32 s.code, .bool s.over] ++ Dp.wordCells s.regs ++ [])) := by unfold Hid; rw [List.append_nil]; exact x6
 have HW : Hid ((Dp.wordCells s.regs).length = 8) := by unfold Hid; simp [Dp.wordCells, hs.len]
 clear x6
 go_wp2_with (refine Dp.wpList_load_in rfl 98 _ rfl w.heap.size 4 rfl 100 _ _ _ HX6.out rfl _ Tryz.underlying98 rfl (by rw [sizeRegs32, HW.out]) ?_)
 intro _
 go_wp2
 go_loopw [5, 7, 33] (fun v _ i wr => ∃ k : Nat, k ≤ 8 ∧ i = .int .i64 k ∧ Dp.Own wr 5 v (Dp.vals ([] ++ Dp.four s.pc ++ Dp.four s.steps ++ Dp.four s.code ++ [bt] ++ ((s.regs.take k).map Dp.four).flatten)) ∧ Hid (∀ g, v.ownBlock = some g → w.heap.size ≤ g) ∧ Dp.Keeps (fun _ => False) w wr) (fun _ _ i _ => 8 - (intOf i).toNat)
 case atStart => exact ⟨0, Nat.zero_le _, rfl, by simpa using o6, HF6, kr6⟩
 case round =>
  obtain ⟨k, hk, rfl, ok, HFk, kk⟩ := hrel
  clear o6 HF6 kr6
  by_cases hk2 : k < 8
  ·have hkl : k < s.regs.length := by rw [hs.len]; exact hk2
   have hx : (Dp.wordCells s.regs).toArray[k]? = some (.int .u32 s.regs[k]) := by simp [Dp.wordCells, hkl]
   have hwx : Dp.isWord s.regs[k] := hs.regs _ (List.getElem_mem hkl)
   have hidx : ∀ wx, (Instr.index 98 (.agg (Dp.wordCells s.regs).toArray) (.int .i64 (k : Int))).run Tryz.prog wx = .ok (.int .u32 s.regs[k]) wx := fun wx => Dp.run_index_one wx 98 97 8 _ k _ (by rfl) (by rfl) (by rfl) hk2 hx
   have HT : Hid (((s.regs.take (k + 1)).map Dp.four).flatten = ((s.regs.take k).map Dp.four).flatten ++ Dp.four s.regs[k]) := by
    unfold Hid; rw [List.take_succ_eq_append_getElem hkl, List.map_append, List.flatten_append]; simp
   have HLL : Hid ((((s.regs.take k).map Dp.four).flatten).length = 4 * k) := by
    unfold Hid
    rw [List.length_flatten, List.map_map]
    have : (List.map (List.length ∘ Dp.four) (List.take k s.regs)) = List.replicate k 4 := by
     apply List.ext_getElem (by simp; omega)
     intro i h1 h2
     simp [Dp.four_length]
    rw [this]; simp; omega
   have HAL : Hid ((Dp.vals ([] ++ Dp.four s.pc ++ Dp.four s.steps ++ Dp.four s.code ++ [bt] ++ ((s.regs.take k).map Dp.four).flatten)).length = 13 + 4 * k) := by
    unfold Hid; rw [Dp.vals_length, List.length_append, HLL.out]; rfl
   have HT2 : Hid ([] ++ Dp.four s.pc ++ Dp.four s.steps ++ Dp.four s.code ++ [bt] ++ ((s.regs.take (k + 1)).map Dp.four).flatten = [] ++ Dp.four s.pc ++ Dp.four s.steps ++ Dp.four s.code ++ [bt] ++ ((s.regs.take k).map Dp.four).flatten ++ Dp.four s.regs[k]) := by
    unfold Hid; rw [HT.out, ← List.append_assoc]
   generalize [] ++ Dp.four s.pc ++ Dp.four s.steps ++ Dp.four s.code ++ [bt] ++ ((s.regs.take k).map Dp.four).flatten = acc at *
   generalize s.regs[k] = rk at *
   clear HX6 HT HLL hx
   go_wp2_with fail
   refine (progWord rk _ hwx).mono ?_
   rintro e wa ⟨rfl, ra, za, ka⟩
   have oa := ok.keep ka (fun _ _ e => e)
   have NW := Hid.mk_ (Dp.vals_news ra)
   clear hidx
   go_wp2_with (at_builtin; refine Dp.wpList_append_Own rfl _ _ 47 rfl 5 (.int .u8 0) 1 Tryz.underlying47 infoU8 rfl u5 (Dp.vals acc) rfl oa ⟨wr.heap.size, 0, none⟩ 4 4 (Dp.vals (Dp.four rk)) rfl rfl NW.out (Dp.vals_one _) (by omega) (by rw [HAL.out]; unfold maxLen; omega) (by rw [HAL.out]; omega) ?_)
   intro vb wb ob kb sb
   rw [Dp.vals_append] at ob
   have OB : Hid (Dp.Own wb 5 vb (Dp.vals ([] ++ Dp.four s.pc ++ Dp.four s.steps ++ Dp.four s.code ++ [bt] ++ ((s.regs.take (k + 1)).map Dp.four).flatten))) := by unfold Hid; rw [HT2.out]; exact ob
   have krb := (kk.trans ka).next kb (fun i hi e => by have := HFk.out i e; omega)
   have HFb : Hid (∀ g, vb.ownBlock = some g → w.heap.size ≤ g) := fun g hg => by
    have hsz := (kk.trans ka).size
    rcases sb.out with hh | hh
    ·exact HFk.out g (hh.1 ▸ hg)
    ·rw [hh.1] at hg; simp at hg; omega
   clear ok oa ra za ka kb sb ob NW
   go_wp2
   go_roundw
   case rel => exact ⟨k + 1, by omega, by go_num, OB.out, HFb, krb⟩
   case measure => simp [intOf]; omega
  ·obtain rfl : k = 8 := by omega
   have HTL : Hid (s.regs.take 8 = s.regs) := List.take_of_length_le (Nat.le_of_eq hs.len)
   have HLA : Hid ([] ++ Dp.four s.pc ++ Dp.four s.steps ++ Dp.four s.code ++ [bt] ++ ((s.regs.take 8).map Dp.four).flatten ++ Dp.two root = Dp.label s root) := by
    unfold Hid Dp.label; rw [HTL.out, HBT.out]; simp
   have HAL : Hid ((Dp.vals ([] ++ Dp.four s.pc ++ Dp.four s.steps ++ Dp.four s.code ++ [bt] ++ ((s.regs.take 8).map Dp.four).flatten)).length ≤ 100) := by
    unfold Hid
    have h := Dp.label_length s root hs.len
    rw [← HLA.out, List.length_append] at h
    rw [Dp.vals_length]; omega
   generalize [] ++ Dp.four s.pc ++ Dp.four s.steps ++ Dp.four s.code ++ [bt] ++ ((s.regs.take 8).map Dp.four).flatten = acc at *
   clear HX6
   go_wp2_with fail
   refine (progTwo root _ hr).mono ?_
   rintro e wa ⟨rfl, ra, za, ka⟩
   have oa := ok.keep ka (fun _ _ e => e)
   have NW := Hid.mk_ (Dp.vals_news ra)
   go_wp2_with (at_builtin; refine Dp.wpList_append_Own rfl _ _ 47 rfl 5 (.int .u8 0) 1 Tryz.underlying47 infoU8 rfl u5 (Dp.vals acc) rfl oa ⟨wr.heap.size, 0, none⟩ 2 2 (Dp.vals (Dp.two root)) rfl rfl NW.out (Dp.vals_one _) (by omega) (by have := HAL.out; unfold maxLen; omega) (by have := HAL.out; omega) ?_)
   intro vb wb ob kb sb
   rw [Dp.vals_append, HLA.out] at ob
   have krb := (kk.trans ka).next kb (fun i hi e => by have := HFk.out i e; omega)
   have HFb : Hid (∀ g, vb.ownBlock = some g → w.heap.size ≤ g) := fun g hg => by
    have hsz := (kk.trans ka).size
    rcases sb.out with hh | hh
    ·exact HFk.out g (hh.1 ▸ hg)
    ·rw [hh.1] at hg; simp at hg; omega
   clear ok oa ra za ka kb sb NW
   go_wp2
   go_ret
   exact ⟨⟨_, rfl, ob, HFb.out⟩, krb⟩
end Go.Proofs.YtdipojfngdceoaaGreatDoor
