/- Steps on the way: LawStep2, LawPlay, LawPlay2, LawOpenA. -/
import Derived.Test.YtdipojfngdceoaaGreatDoorPack23
/- A step of a script: cells and stamps. -/
namespace Go.Proofs.YtdipojfngdceoaaGreatDoor
open Go.RowKit

namespace Dp
theorem applyOp_same (m : Mach) (kind n : Int) (h1 : kind ≠ 1) (h2 : kind ≠ 2) : applyOp m kind n = m := by
  unfold applyOp; rw [if_neg h1, if_neg (fun h => h2 h.1)]
theorem RefM.cellAt {w : World} {p g : Nat} {vr : Value} {m : Mach} (h : RefM w p g vr m) (n : Nat) (hn : n < 256) : ∃ cap, w.cell? ⟨p, 14, none⟩ = some (.slice (some ⟨g, 0, none⟩) 256 cap) ∧ w.cell? ⟨g, n, none⟩ = some (.int .i64 (m.cell n)) := by
  obtain ⟨r, stale, tail, h1, h2, _⟩ := h.ex
  refine ⟨256 + tail.length, (h1.refC h.ok.s.len).2.2.2.2.2.2.1, ?_⟩
  have hl : n < m.cells.length := by rw [h.ok.len]; exact hn
  rw [h2.cell, List.getElem?_append_left (by simp [regCells]; exact hl)]
  simp [regCells, hl, Mach.cell]
end Dp

set_option maxRecDepth 100000 in
set_option maxHeartbeats 1000000 in
theorem lawStep4 (w : World) (W s b p g : Nat) (G : Nat → Prop) (vs vr : Value) (m : Dp.Mach) (kind n : Int) (vA : Value) (St : ByteArray) (which : Bool) (h : Dp.Side w s b p g G vs vr m) (hk : kind = 4) (N : Nat) (hnN : n = N) (hN : N < 256) :
    Calls Tryz.prog 32 #[.pointer (some ⟨W, 0, none⟩), .pointer (some ⟨s, 0, none⟩), .agg (Dp.opCells kind n vA St which).toArray] w fun e w' => e = .returned (.bool true) ∧ Dp.Keeps (fun k => k = b ∨ k = p ∨ k = g) w w' ∧ Dp.Side w' s b p g G vs vr (Dp.applyOp m kind n) := by
  obtain ⟨n1, n2, n3, n4, n5, n6, n7⟩ := h.ne
  go_enter Tryz.func32, Tryz.ntmps32
  go_wp2_with (refine Dp.wpList_box_row rfl 40 _ rfl (Dp.opCells kind n vA St which) rfl ?_)
  intro w1 r1 z1 k1
  have h1 := h.still k1
  clear h
  subst hk
  subst hnN
  obtain ⟨o0, o1, _, _, _⟩ := r1.ops
  have qx : ∀ wx, Dp.Keeps (fun _ => False) w1 wx → wx.cell? ⟨s, 0, none⟩ = some (.pointer (some ⟨b, 0, none⟩)) := fun wx kx => (h1.row.keep kx (fun e => e)).cell 0
  have qn : ∀ wx, Dp.Keeps (fun _ => False) w1 wx → wx.cell? ⟨w.heap.size, 1, none⟩ = some (.int .i64 (N : Int)) := fun wx kx => ((r1.keep kx (fun e => e)).ops).2.1
  have hS0 : Dp.Keeps (fun _ => False) w1 w1.drew := (Dp.Keeps.refl _ _).drew
  go_wp2
  clear o0
  refine Dp.wp_region_L (fun wx => Dp.Keeps (fun _ => False) w1 wx) 6 mixedP ?_
  refine' Dp.wpAnyL_take 0 rfl (by kernel_rfl) (fun _ _ _ h => h) (by rfl) ?hy0 hS0 ?rest0
  case hy0 => intro wx hSx; go_simp; try with_reducible rfl
  simp only [Act.put, List.getElem_toArray, List.getElem_cons_zero, List.setIfInBounds_toArray, List.set_cons_zero, List.set_cons_succ]
  refine' Dp.wpAnyL_take 1 rfl (by kernel_rfl) (fun _ _ _ h => h) (by rfl) ?hy1 hS0 ?rest1
  case hy1 => intro wx hSx; go_simp; try with_reducible rfl
  simp only [Act.put, List.getElem_toArray, List.getElem_cons_zero, List.getElem_cons_succ, List.setIfInBounds_toArray, List.set_cons_zero, List.set_cons_succ]
  refine' Dp.wpAnyL_take 2 rfl (by kernel_rfl) (fun _ _ _ h => h) (by rfl) ?hy2 hS0 ?rest2
  case hy2 => intro wx hSx; go_simp; try with_reducible rfl
  simp only [Act.put, List.getElem_toArray, List.getElem_cons_zero, List.getElem_cons_succ, List.setIfInBounds_toArray, List.set_cons_zero, List.set_cons_succ]
  refine' Dp.wpAnyL_take 3 rfl (by kernel_rfl) (fun _ _ _ h => h) (by rfl) ?hy3 hS0 ?rest3
  case hy3 => intro wx hSx; go_simp; try with_reducible rfl
  simp only [Act.put, List.getElem_toArray, List.getElem_cons_zero, List.getElem_cons_succ, List.setIfInBounds_toArray, List.set_cons_zero, List.set_cons_succ]
  refine' Dp.wpAnyL_take 4 rfl (by kernel_rfl) (fun _ _ _ h => h) (by rfl) ?hy4 hS0 ?rest4
  case hy4 => intro wx hSx; go_simp; try with_reducible rfl
  simp only [Act.put, List.getElem_toArray, List.getElem_cons_zero, List.getElem_cons_succ, List.setIfInBounds_toArray, List.set_cons_zero, List.set_cons_succ]
  refine' Dp.wpAnyL_take 5 rfl (by kernel_rfl) (fun _ _ _ h => h) (by rfl) ?hy5 hS0 ?rest5
  case hy5 => intro wx hSx; go_simp; try with_reducible rfl
  simp only [Act.put, List.getElem_toArray, List.getElem_cons_zero, List.getElem_cons_succ, List.setIfInBounds_toArray, List.set_cons_zero, List.set_cons_succ]
  refine Dp.wpAnyL_one 6 rfl (by kernel_rfl) (by rfl) (fun K hK => ?_)
  go_simp
  refine (progMCell w1.drew b G vs m (h1.still hS0).prog N (by omega)).mono ?_
  rintro e w2 ⟨rfl, hw2⟩
  have k2 : Dp.Keeps (fun _ => False) w1 w2 := by rw [hw2]; exact hS0
  clear hw2
  refine hK _ _ ⟨fun h => absurd h (Nat.lt_irrefl _), ?_⟩
  clear hK K
  refine Dp.wpAnyL_rest (by kernel_rfl) ?_
  refine' Dp.wpAny_pure 7 rfl (by kernel_rfl) (fun _ _ _ h => h) (.inl ⟨by rfl, ?hp7⟩) ?pest7
  case hp7 => intro wx; go_simp; try with_reducible rfl
  simp only [Act.put, List.getElem_toArray, List.getElem_cons_zero, List.getElem_cons_succ, List.setIfInBounds_toArray, List.set_cons_zero, List.set_cons_succ]
  refine' Dp.wpAny_pure 8 rfl (by kernel_rfl) (fun _ _ _ h => h) (.inl ⟨by rfl, ?hp8⟩) ?pest8
  case hp8 => intro wx; go_simp; try with_reducible rfl
  simp only [Act.put, List.getElem_toArray, List.getElem_cons_zero, List.getElem_cons_succ, List.setIfInBounds_toArray, List.set_cons_zero, List.set_cons_succ]
  refine' Dp.wpAny_pure 9 rfl (by kernel_rfl) (fun _ _ _ h => h) (.inl ⟨by rfl, ?hp9⟩) ?pest9
  case hp9 => intro wx; go_simp; try with_reducible rfl
  simp only [Act.put, List.getElem_toArray, List.getElem_cons_zero, List.getElem_cons_succ, List.setIfInBounds_toArray, List.set_cons_zero, List.set_cons_succ]
  refine' Dp.wpAny_pure 10 rfl (by kernel_rfl) (fun _ _ _ h => h) (.inl ⟨by rfl, ?hp10⟩) ?pest10
  case hp10 => intro wx; go_simp; try with_reducible rfl
  simp only [Act.put, List.getElem_toArray, List.getElem_cons_zero, List.getElem_cons_succ, List.setIfInBounds_toArray, List.set_cons_zero, List.set_cons_succ]
  refine' Dp.wpAny_pure 11 rfl (by kernel_rfl) (fun _ _ _ h => h) (.inl ⟨by rfl, ?hp11⟩) ?pest11
  case hp11 => intro wx; go_simp; try with_reducible rfl
  simp only [Act.put, List.getElem_toArray, List.getElem_cons_zero, List.getElem_cons_succ, List.setIfInBounds_toArray, List.set_cons_zero, List.set_cons_succ]
  refine wpAny_done (by kernel_rfl) ?_ _
  have h2 := h1.still k2
  obtain ⟨_, o1', _, _, _⟩ := (r1.keep k2 (fun e => e)).ops
  clear qx qn o1
  obtain ⟨cap, c14, cg⟩ := h2.ref.cellAt N hN
  obtain ⟨d0, d1⟩ := h2.cells
  have HSS : Hid (Dp.Side w2.drew s b p g G vs vr (Dp.applyOp m 4 N)) := by
    unfold Hid; rw [Dp.applyOp_same m 4 N (by decide) (by decide)]; exact h2.still (Dp.Keeps.refl _ _).drew
  have HKK : Hid (Dp.Keeps (fun k => k = b ∨ k = p ∨ k = g) w w2.drew) := ((k1.trans k2).drew).mono (fun _ _ e => e.elim)
  generalize m.cell N = cx at *
  clear h1 h2
  have hn0 : ¬ (N : Int) < 0 := by omega
  have hn1 : ¬ (255 : Int) < (N : Int) := by omega
  go_wp2
  go_region
  go_wp2
  go_ret
  exact ⟨rfl, HKK.out, HSS.out⟩

set_option maxRecDepth 100000 in
set_option maxHeartbeats 1000000 in
theorem lawStep4Err (w : World) (W s b p g : Nat) (G : Nat → Prop) (vs vr : Value) (m : Dp.Mach) (kind n : Int) (vA : Value) (St : ByteArray) (which : Bool) (h : Dp.Side w s b p g G vs vr m) (hk : kind = 4) (hn : n < 0 ∨ 256 ≤ n) :
    Calls Tryz.prog 32 #[.pointer (some ⟨W, 0, none⟩), .pointer (some ⟨s, 0, none⟩), .agg (Dp.opCells kind n vA St which).toArray] w fun e w' => e = .returned (.bool true) ∧ Dp.Keeps (fun k => k = b ∨ k = p ∨ k = g) w w' ∧ Dp.Side w' s b p g G vs vr (Dp.applyOp m kind n) := by
  obtain ⟨n1, n2, n3, n4, n5, n6, n7⟩ := h.ne
  go_enter Tryz.func32, Tryz.ntmps32
  go_wp2_with (refine Dp.wpList_box_row rfl 40 _ rfl (Dp.opCells kind n vA St which) rfl ?_)
  intro w1 r1 z1 k1
  have h1 := h.still k1
  clear h
  subst hk
  obtain ⟨o0, o1, _, _, _⟩ := r1.ops
  have qx : ∀ wx, Dp.Keeps (fun _ => False) w1 wx → wx.cell? ⟨s, 0, none⟩ = some (.pointer (some ⟨b, 0, none⟩)) := fun wx kx => (h1.row.keep kx (fun e => e)).cell 0
  have qn : ∀ wx, Dp.Keeps (fun _ => False) w1 wx → wx.cell? ⟨w.heap.size, 1, none⟩ = some (.int .i64 n) := fun wx kx => ((r1.keep kx (fun e => e)).ops).2.1
  have hS0 : Dp.Keeps (fun _ => False) w1 w1.drew := (Dp.Keeps.refl _ _).drew
  go_wp2
  clear o0
  refine Dp.wp_region_L (fun wx => Dp.Keeps (fun _ => False) w1 wx) 6 mixedP ?_
  refine' Dp.wpAnyL_take 0 rfl (by kernel_rfl) (fun _ _ _ h => h) (by rfl) ?hy0 hS0 ?rest0
  case hy0 => intro wx hSx; go_simp; try with_reducible rfl
  simp only [Act.put, List.getElem_toArray, List.getElem_cons_zero, List.setIfInBounds_toArray, List.set_cons_zero, List.set_cons_succ]
  refine' Dp.wpAnyL_take 1 rfl (by kernel_rfl) (fun _ _ _ h => h) (by rfl) ?hy1 hS0 ?rest1
  case hy1 => intro wx hSx; go_simp; try with_reducible rfl
  simp only [Act.put, List.getElem_toArray, List.getElem_cons_zero, List.getElem_cons_succ, List.setIfInBounds_toArray, List.set_cons_zero, List.set_cons_succ]
  refine' Dp.wpAnyL_take 2 rfl (by kernel_rfl) (fun _ _ _ h => h) (by rfl) ?hy2 hS0 ?rest2
  case hy2 => intro wx hSx; go_simp; try with_reducible rfl
  simp only [Act.put, List.getElem_toArray, List.getElem_cons_zero, List.getElem_cons_succ, List.setIfInBounds_toArray, List.set_cons_zero, List.set_cons_succ]
  refine' Dp.wpAnyL_take 3 rfl (by kernel_rfl) (fun _ _ _ h => h) (by rfl) ?hy3 hS0 ?rest3
  case hy3 => intro wx hSx; go_simp; try with_reducible rfl
  simp only [Act.put, List.getElem_toArray, List.getElem_cons_zero, List.getElem_cons_succ, List.setIfInBounds_toArray, List.set_cons_zero, List.set_cons_succ]
  refine' Dp.wpAnyL_take 4 rfl (by kernel_rfl) (fun _ _ _ h => h) (by rfl) ?hy4 hS0 ?rest4
  case hy4 => intro wx hSx; go_simp; try with_reducible rfl
  simp only [Act.put, List.getElem_toArray, List.getElem_cons_zero, List.getElem_cons_succ, List.setIfInBounds_toArray, List.set_cons_zero, List.set_cons_succ]
  refine' Dp.wpAnyL_take 5 rfl (by kernel_rfl) (fun _ _ _ h => h) (by rfl) ?hy5 hS0 ?rest5
  case hy5 => intro wx hSx; go_simp; try with_reducible rfl
  simp only [Act.put, List.getElem_toArray, List.getElem_cons_zero, List.getElem_cons_succ, List.setIfInBounds_toArray, List.set_cons_zero, List.set_cons_succ]
  refine Dp.wpAnyL_one 6 rfl (by kernel_rfl) (by rfl) (fun K hK => ?_)
  go_simp
  refine (progMCellErr w1.drew b n hn).mono ?_
  rintro e w2 ⟨rfl, hw2⟩
  have k2 : Dp.Keeps (fun _ => False) w1 w2 := by rw [hw2]; exact hS0
  clear hw2
  refine hK _ _ ⟨fun h => absurd h (Nat.lt_irrefl _), ?_⟩
  clear hK K
  refine Dp.wpAnyL_rest (by kernel_rfl) ?_
  refine' Dp.wpAny_pure 7 rfl (by kernel_rfl) (fun _ _ _ h => h) (.inl ⟨by rfl, ?hp7⟩) ?pest7
  case hp7 => intro wx; go_simp; try with_reducible rfl
  simp only [Act.put, List.getElem_toArray, List.getElem_cons_zero, List.getElem_cons_succ, List.setIfInBounds_toArray, List.set_cons_zero, List.set_cons_succ]
  refine' Dp.wpAny_pure 8 rfl (by kernel_rfl) (fun _ _ _ h => h) (.inl ⟨by rfl, ?hp8⟩) ?pest8
  case hp8 => intro wx; go_simp; try with_reducible rfl
  simp only [Act.put, List.getElem_toArray, List.getElem_cons_zero, List.getElem_cons_succ, List.setIfInBounds_toArray, List.set_cons_zero, List.set_cons_succ]
  refine' Dp.wpAny_pure 9 rfl (by kernel_rfl) (fun _ _ _ h => h) (.inl ⟨by rfl, ?hp9⟩) ?pest9
  case hp9 => intro wx; go_simp; try with_reducible rfl
  simp only [Act.put, List.getElem_toArray, List.getElem_cons_zero, List.getElem_cons_succ, List.setIfInBounds_toArray, List.set_cons_zero, List.set_cons_succ]
  refine' Dp.wpAny_pure 10 rfl (by kernel_rfl) (fun _ _ _ h => h) (.inl ⟨by rfl, ?hp10⟩) ?pest10
  case hp10 => intro wx; go_simp; try with_reducible rfl
  simp only [Act.put, List.getElem_toArray, List.getElem_cons_zero, List.getElem_cons_succ, List.setIfInBounds_toArray, List.set_cons_zero, List.set_cons_succ]
  refine' Dp.wpAny_pure 11 rfl (by kernel_rfl) (fun _ _ _ h => h) (.inl ⟨by rfl, ?hp11⟩) ?pest11
  case hp11 => intro wx; go_simp; try with_reducible rfl
  simp only [Act.put, List.getElem_toArray, List.getElem_cons_zero, List.getElem_cons_succ, List.setIfInBounds_toArray, List.set_cons_zero, List.set_cons_succ]
  refine wpAny_done (by kernel_rfl) ?_ _
  have h2 := h1.still k2
  obtain ⟨_, o1', _, _, _⟩ := (r1.keep k2 (fun e => e)).ops
  clear qx qn o1
  have HSS : Hid (Dp.Side w2 s b p g G vs vr (Dp.applyOp m 4 n)) := by
    unfold Hid; rw [Dp.applyOp_same m 4 n (by decide) (by decide)]; exact h2
  have HKK : Hid (Dp.Keeps (fun k => k = b ∨ k = p ∨ k = g) w w2) := (k1.trans k2).mono (fun _ _ e => e.elim)
  clear h1 h2
  rcases hn with hn | hn
  · go_wp2
    go_ret
    exact ⟨rfl, HKK.out, HSS.out⟩
  · have hn0 : ¬ n < 0 := by omega
    have hn1 : (255 : Int) < n := by omega
    go_wp2
    go_ret
    exact ⟨rfl, HKK.out, HSS.out⟩

set_option maxRecDepth 100000 in
set_option maxHeartbeats 1000000 in
theorem lawStep5 (w : World) (W s b p g : Nat) (G : Nat → Prop) (vs vr : Value) (m : Dp.Mach) (kind n : Int) (vA : Value) (St : ByteArray) (which : Bool) (h : Dp.Side w s b p g G vs vr m) (hk : kind = 5) :
    Calls Tryz.prog 32 #[.pointer (some ⟨W, 0, none⟩), .pointer (some ⟨s, 0, none⟩), .agg (Dp.opCells kind n vA St which).toArray] w fun e w' => e = .returned (.bool true) ∧ Dp.Keeps (fun k => k = b ∨ k = p ∨ k = g) w w' ∧ Dp.Side w' s b p g G vs vr (Dp.applyOp m kind n) := by
  obtain ⟨n1, n2, n3, n4, n5, n6, n7⟩ := h.ne
  go_enter Tryz.func32, Tryz.ntmps32
  go_wp2_with (refine Dp.wpList_box_row rfl 40 _ rfl (Dp.opCells kind n vA St which) rfl ?_)
  intro w1 r1 z1 k1
  have h1 := h.still k1
  clear h
  subst hk
  obtain ⟨o0, _, _, _, _⟩ := r1.ops
  have qx : ∀ wx, Dp.Keeps (fun k => k = p) w1 wx → wx.cell? ⟨s, 0, none⟩ = some (.pointer (some ⟨b, 0, none⟩)) := fun wx kx => (h1.row.keep kx n2).cell 0
  have qy : ∀ wx, Dp.Keeps (fun k => k = p) w1 wx → wx.cell? ⟨s, 1, none⟩ = some (.pointer (some ⟨p, 0, none⟩)) := fun wx kx => (h1.row.keep kx n2).cell 1
  have hS0 : Dp.Keeps (fun k => k = p) w1 w1.drew := (Dp.Keeps.refl _ _).drew
  have h1d := h1.still ((Dp.Keeps.refl (fun _ => False) w1).drew)
  go_wp2
  clear o0
  refine Dp.wp_region_L (fun wx => Dp.Keeps (fun k => k = p) w1 wx) 10 mixedP ?_
  refine' Dp.wpAnyL_take 0 rfl (by kernel_rfl) (fun _ _ _ h => h) (by rfl) ?hy0 hS0 ?rest0
  case hy0 => intro wx hSx; go_simp; try with_reducible rfl
  simp only [Act.put, List.getElem_toArray, List.getElem_cons_zero, List.setIfInBounds_toArray, List.set_cons_zero, List.set_cons_succ]
  refine' Dp.wpAnyL_take 1 rfl (by kernel_rfl) (fun _ _ _ h => h) (by rfl) ?hy1 hS0 ?rest1
  case hy1 => intro wx hSx; go_simp; try with_reducible rfl
  simp only [Act.put, List.getElem_toArray, List.getElem_cons_zero, List.getElem_cons_succ, List.setIfInBounds_toArray, List.set_cons_zero, List.set_cons_succ]
  refine' Dp.wpAnyL_take 2 rfl (by kernel_rfl) (fun _ _ _ h => h) (by rfl) ?hy2 hS0 ?rest2
  case hy2 => intro wx hSx; go_simp; try with_reducible rfl
  simp only [Act.put, List.getElem_toArray, List.getElem_cons_zero, List.getElem_cons_succ, List.setIfInBounds_toArray, List.set_cons_zero, List.set_cons_succ]
  refine' Dp.wpAnyL_take 3 rfl (by kernel_rfl) (fun _ _ _ h => h) (by rfl) ?hy3 hS0 ?rest3
  case hy3 => intro wx hSx; go_simp; try with_reducible rfl
  simp only [Act.put, List.getElem_toArray, List.getElem_cons_zero, List.getElem_cons_succ, List.setIfInBounds_toArray, List.set_cons_zero, List.set_cons_succ]
  refine' Dp.wpAnyL_take 5 rfl (by kernel_rfl) (fun _ _ _ h => h) (by rfl) ?hy5 hS0 ?rest5
  case hy5 => intro wx hSx; go_simp; try with_reducible rfl
  simp only [Act.put, List.getElem_toArray, List.getElem_cons_zero, List.getElem_cons_succ, List.setIfInBounds_toArray, List.set_cons_zero, List.set_cons_succ]
  refine' Dp.wpAnyL_take 6 rfl (by kernel_rfl) (fun _ _ _ h => h) (by rfl) ?hy6 hS0 ?rest6
  case hy6 => intro wx hSx; go_simp; try with_reducible rfl
  simp only [Act.put, List.getElem_toArray, List.getElem_cons_zero, List.getElem_cons_succ, List.setIfInBounds_toArray, List.set_cons_zero, List.set_cons_succ]
  refine' Dp.wpAnyL_take 7 rfl (by kernel_rfl) (fun _ _ _ h => h) (by rfl) ?hy7 hS0 ?rest7
  case hy7 => intro wx hSx; go_simp; try with_reducible rfl
  simp only [Act.put, List.getElem_toArray, List.getElem_cons_zero, List.getElem_cons_succ, List.setIfInBounds_toArray, List.set_cons_zero, List.set_cons_succ]
  refine' Dp.wpAnyL_take 8 rfl (by kernel_rfl) (fun _ _ _ h => h) (by rfl) ?hy8 hS0 ?rest8
  case hy8 => intro wx hSx; go_simp; try with_reducible rfl
  simp only [Act.put, List.getElem_toArray, List.getElem_cons_zero, List.getElem_cons_succ, List.setIfInBounds_toArray, List.set_cons_zero, List.set_cons_succ]
  refine Dp.wpAnyL_one 4 rfl (by kernel_rfl) (by rfl) (fun K hK => ?_)
  go_simp
  refine (progMStamp w1.drew b G vs m h1d.prog).mono ?_
  rintro e w2 ⟨rfl, kPw2⟩
  have kw2 : Dp.Keeps (fun k => k = p) w1.drew w2 := kPw2.mono (fun _ _ e => e.elim)
  have sw2 := h1d.still kPw2
  have hS2 := hS0.trans kw2
  refine hK _ _ ⟨fun _ => hS2, ?_⟩
  clear hK K
  refine Dp.wpAnyL_one 9 rfl (by kernel_rfl) (by rfl) (fun K hK => ?_)
  go_simp
  refine (refStamp w2 p g vr m sw2.ref).mono ?_
  rintro e w3 ⟨rfl, kw3, mw3⟩
  have sw3 : Dp.Side w3 s b p g G vs vr m := ⟨sw2.row.keep kw3 n2, sw2.prog.keep kw3 n4 (fun q hq => (sw2.apart q hq).1), mw3, sw2.apart⟩
  have hS3 := hS2.trans kw3
  refine hK _ _ ⟨fun _ => hS3, ?_⟩
  clear hK K
  refine Dp.wpAnyL_rest (by kernel_rfl) ?_
  refine Dp.wpAny_tail 10 rfl (by kernel_rfl) ?_
  simp only [List.drop_succ_cons, List.drop_zero]
  have HSS : Hid (Dp.Side w3 s b p g G vs vr (Dp.applyOp m 5 n)) := by
    unfold Hid; rw [Dp.applyOp_same m 5 n (by decide) (by decide)]; exact sw3
  have HKK : Hid (Dp.Keeps (fun k => k = b ∨ k = p ∨ k = g) w w3) := (k1.mono (fun _ _ e => e.elim)).next hS3 (fun _ _ e => .inr (.inl e))
  generalize Dp.stamp m.s (Dp.root m.cells) = sx at *
  clear qx qy
  go_wp2
  go_ret
  exact ⟨rfl, HKK.out, HSS.out⟩

theorem lawStep (w : World) (W s b p g : Nat) (G : Nat → Prop) (vs vr : Value) (m : Dp.Mach) (kind n : Int) (vA : Value) (St : ByteArray) (which : Bool) (h : Dp.Side w s b p g G vs vr m) (hk : kind ≤ 5) :
    Calls Tryz.prog 32 #[.pointer (some ⟨W, 0, none⟩), .pointer (some ⟨s, 0, none⟩), .agg (Dp.opCells kind n vA St which).toArray] w fun e w' => e = .returned (.bool true) ∧ Dp.Keeps (fun k => k = b ∨ k = p ∨ k = g) w w' ∧ Dp.Side w' s b p g G vs vr (Dp.applyOp m kind n) := by
  by_cases e0 : kind < 1
  · exact lawStepNo w W s b p g G vs vr m kind n vA St which h e0
  rcases (by omega : kind = 1 ∨ kind = 2 ∨ kind = 3 ∨ kind = 4 ∨ kind = 5) with e | e | e | e | e
  · exact lawStep1 w W s b p g G vs vr m kind n vA St which h e
  · by_cases hn : n < 0 ∨ 100000 < n
    · exact lawStep2Err w W s b p g G vs vr m kind n vA St which h e hn
    · exact lawStep2 w W s b p g G vs vr m kind n vA St which h e n.toNat (by omega) (by omega)
  · exact lawStep3 w W s b p g G vs vr m kind n vA St which h e
  · by_cases hn : n < 0 ∨ 256 ≤ n
    · exact lawStep4Err w W s b p g G vs vr m kind n vA St which h e hn
    · exact lawStep4 w W s b p g G vs vr m kind n vA St which h e n.toNat (by omega) (by omega)
  · exact lawStep5 w W s b p g G vs vr m kind n vA St which h e

end Go.Proofs.YtdipojfngdceoaaGreatDoor

/- A script is played: the two machines stay the same. -/
namespace Go.Proofs.YtdipojfngdceoaaGreatDoor
open Go.RowKit

namespace Dp
/-- The blocks that a side's machines may turn. -/
def Foot (b p g : Nat) : Nat → Prop := fun k => k = b ∨ k = p ∨ k = g
end Dp

set_option maxRecDepth 100000 in
set_option maxHeartbeats 1000000 in
theorem lawEnded (w : World) (W s b p g : Nat) (G : Nat → Prop) (vs vr : Value) (m : Dp.Mach) (h : Dp.Side w s b p g G vs vr m) :
    Calls Tryz.prog 34 #[.pointer (some ⟨W, 0, none⟩), .pointer (some ⟨s, 0, none⟩)] w fun e w' => e = .returned (.bool true) ∧ Dp.Keeps (Dp.Foot b p g) w w' ∧ Dp.Side w' s b p g G vs vr m := by
  go_enter Tryz.func34, Tryz.ntmps34
  go_wp2
  go_loopw [5, 6] (fun i _ wr => ∃ k : Nat, k ≤ 258 ∧ i = .int .i64 ((k : Int) - 1) ∧ Dp.Side wr s b p g G vs vr m ∧ Dp.Keeps (Dp.Foot b p g) w wr) (fun i _ _ => (257 - intOf i).toNat)
  case atStart => exact ⟨0, Nat.zero_le _, rfl, h, Dp.Keeps.refl _ _⟩
  case round =>
    obtain ⟨k, hk, rfl, hs, kk⟩ := hrel
    by_cases hlt : k < 258
    · have hle : (k : Int) - 1 ≤ 256 := by omega
      go_wp2_with fail
      refine (lawStep wr W s b p g G vs vr m 4 ((k : Int) - 1) (.slice none 0 0) ⟨#[]⟩ false hs (by omega)).mono ?_
      rintro e w2 ⟨rfl, k2, h2⟩
      rw [Dp.applyOp_same m 4 _ (by decide) (by decide)] at h2
      have kk2 : Dp.Keeps (Dp.Foot b p g) w w2 := kk.trans k2
      go_wp2
      go_roundw
      case rel => exact ⟨k + 1, by omega, by go_num, h2, kk2⟩
      case measure => simp [intOf]; omega
    · have hle : ¬ (k : Int) - 1 ≤ 256 := by omega
      go_wp2_with fail
      refine (lawStep wr W s b p g G vs vr m 5 0 (.slice none 0 0) ⟨#[]⟩ false hs (by omega)).mono ?_
      rintro e w2 ⟨rfl, k2, h2⟩
      rw [Dp.applyOp_same m 5 _ (by decide) (by decide)] at h2
      go_wp2_with fail
      refine (lawLooked w2 s b p g G vs vr m h2).mono ?_
      rintro e w3 ⟨rfl, k3, h3⟩
      have kk3 : Dp.Keeps (Dp.Foot b p g) w w3 := (kk.trans k2).next k3 (fun _ _ e => .inr (.inl e))
      go_wp2
      go_ret
      exact ⟨rfl, kk3, h3⟩

end Go.Proofs.YtdipojfngdceoaaGreatDoor

/- A script is played, up to stamps: it answers true. -/
namespace Go.Proofs.YtdipojfngdceoaaGreatDoor
open Go.RowKit

namespace Dp
/-- A step of a script. -/
structure SOp where
  kind : Int
  n : Int
  vA : Value
  St : ByteArray
  which : Bool
def SOp.cells (o : SOp) : List Value := opCells o.kind o.n o.vA o.St o.which
/-- All lists that the caller has still hold what the caller wrote. -/
structure KeptOk (w : World) (W : Nat) (v0 v1 v2 v3 v4 v5 : Value) : Prop where
  row : Row w W 32 [v0, v1, v2, v3, v4, v5]
  l1 : ListsOf w v1 (fun i k => .int .u8 (digitN (i / 4 * 4) k : Int))
  l2 : ListsOf w v2 (fun _ _ => .int .u8 251)
  l3 : ListsOf w v3 (fun _ _ => .int .i64 (-7))
  l4 : ListsOf w v4 (fun _ k => .bool ((k : Int) % 2 == 0))
  l5 : TurnedLists w v5
end Dp
theorem zeroOp : (Tryz.prog.info? 40).map (fun i => i.zero) = some (some (.agg (Dp.opCells 0 0 (.slice none 0 0) ⟨#[]⟩ false).toArray)) := by kernel_rfl
theorem sizeOp : (Tryz.prog.info? 40).map (·.size) = some 5 := by kernel_rfl

set_option maxRecDepth 100000 in
set_option maxHeartbeats 2000000 in
theorem lawPlay (w : World) (W s b p g : Nat) (G : Nat → Prop) (vs vr : Value) (m : Dp.Mach) (h : Dp.Side w s b p g G vs vr m) (sb so scap : Nat) (v1 v2 v3 v4 v5 : Value)
    (hL : ∀ w', Dp.Keeps (Dp.Foot b p g) w w' → Dp.KeptOk w' W (.slice (some ⟨sb, so, none⟩) 1 scap) v1 v2 v3 v4 v5 ∧ w'.cell? ⟨sb, so, none⟩ = some (.pointer (some ⟨s, 0, none⟩)))
    (ops : List Dp.SOp) (ob oo ocap : Nat) (oad : Option Addr) (hoad : ops ≠ [] → oad = some ⟨ob, oo, none⟩) (hol : ops.length ≤ 16777216)
    (hA : ∀ x ∈ ops, x.vA.oneCell' = true) (hN : ∀ x ∈ ops, -9223372036854775808 ≤ x.kind ∧ x.kind ≤ 9223372036854775807)
    (hO : ∀ w', Dp.Keeps (Dp.Foot b p g) w w' → ∀ i (hi : i < ops.length), ∀ j, j < 5 → w'.cell? ⟨ob, oo + i * 5 + j, none⟩ = ops[i].cells[j]?) :
    Calls Tryz.prog 14 #[.pointer (some ⟨W, 0, none⟩), .slice oad ops.length ocap, .int .i64 5] w fun e w' => e = .returned (.bool true) ∧ Dp.Keeps (Dp.Foot b p g) w w' := by
  have HL := Hid.mk_ hL
  have HO := Hid.mk_ hO
  have HA := Hid.mk_ hA
  have HN := Hid.mk_ hN
  have HOA := Hid.mk_ hoad
  have cw0 := (hL w (Dp.Keeps.refl _ _)).1.row.cell 0
  simp only [List.getElem?_cons_zero] at cw0
  clear hL hO hA hN hoad
  go_enter Tryz.func14, Tryz.ntmps14
  go_wp2
  clear cw0
  go_loopw [8, 9, 10, 11, 12] (fun i _ _ _ _ wr => ∃ (k : Nat) (m' : Dp.Mach), k ≤ ops.length ∧ i = .int .i64 k ∧ Dp.Side wr s b p g G vs vr m' ∧ Dp.Keeps (Dp.Foot b p g) w wr) (fun i _ _ _ _ _ => ops.length - (intOf i).toNat)
  case atStart => exact ⟨0, m, Nat.zero_le _, rfl, h, Dp.Keeps.refl _ _⟩
  case round =>
    obtain ⟨k, m', hk, rfl, hs, kk⟩ := hrel
    by_cases hlt : k < ops.length
    · obtain rfl := HOA.out (by intro e; simp [e] at hlt)
      have hc := HO.out wr kk k hlt
      have e0 := hc 0 (by omega)
      have e1 := hc 1 (by omega)
      have e2 := hc 2 (by omega)
      have e3 := hc 3 (by omega)
      have e4 := hc 4 (by omega)
      have hone := HA.out _ (List.getElem_mem hlt)
      have hnk := HN.out _ (List.getElem_mem hlt)
      generalize ops[k] = o at *
      obtain ⟨kind, n, vA, St, which⟩ := o
      simp only [Dp.SOp.cells, Dp.opCells, List.getElem?_cons_zero, List.getElem?_cons_succ, Nat.add_zero] at e0 e1 e2 e3 e4 hone hnk
      clear hc
      have HZ : Hid ((Dp.opCells kind n vA St which).length = 5) := rfl
      have HON : Hid (∀ v ∈ Dp.opCells kind n vA St which, v.oneCell' = true) := by
        intro v hv
        simp only [Dp.opCells, List.mem_cons, List.not_mem_nil, or_false] at hv
        rcases hv with rfl | rfl | rfl | rfl | rfl <;> first | rfl | exact hone
      clear hone
      go_wp2_with (refine Dp.wpList_alloc_row rfl 40 rfl _ zeroOp ?_)
      intro w1 r1 z1 k1
      have HR1 := Hid.mk_ (Dp.row_nil r1)
      go_wp2_with (refine Dp.wpList_store_in rfl 40 _ _ rfl wr.heap.size 0 rfl (Dp.opCells kind n vA St which) rfl 40 [] _ [] HR1.out rfl rfl sizeOp HON.out ?_)
      intro w2 r2 z2 k2
      have r2' : Dp.Row w2 wr.heap.size 40 (Dp.opCells kind n vA St which) := by simpa using r2
      have k12 : Dp.Keeps (fun _ => False) wr w2 := k1.next k2 (fun q hq e => by omega)
      have hs2 := hs.still k12
      have kk2 : Dp.Keeps (Dp.Foot b p g) w w2 := kk.next k12 (fun _ _ e => e.elim)
      obtain ⟨o0, _, _, _, o4⟩ := r2'.ops
      have HR2 := Hid.mk_ (Dp.row_nil r2')
      clear r1 r2 r2' HR1 k1 k2 k12 z1 z2 e0 e1 e2 e3 e4 HON hs
      by_cases hkd : 5 < kind
      · go_wp2
        go_roundw
        case rel => exact ⟨k + 1, m', by omega, by go_num, hs2, kk2⟩
        case measure => simp [intOf]; omega
      · cases which with
        | true =>
          have hst := (HL.out w2 kk2).1.row.cell 0
          simp only [List.getElem?_cons_zero] at hst
          have hsc := (HL.out w2 kk2).2
          go_wp2_with (refine Dp.wpList_load_in rfl 40 _ rfl wr.heap.size 0 rfl 40 [] _ _ HR2.out rfl _ Tryz.underlying40 rfl sizeOp ?_; intro _)
          refine (lawStep w2 W s b p g G vs vr m' kind n vA St true hs2 (by omega)).mono ?_
          rintro e w3 ⟨rfl, k3, h3⟩
          have kk3 : Dp.Keeps (Dp.Foot b p g) w w3 := kk2.trans k3
          have HK3 := Hid.mk_ (HL.out w3 kk3).1
          clear hst hsc o0 o4
          go_wp2_with fail
          refine (lawKept w3 W _ v1 v2 v3 v4 v5 HK3.out.row HK3.out.l1 HK3.out.l2 HK3.out.l3 HK3.out.l4 HK3.out.l5).mono ?_
          rintro e w4 ⟨rfl, nn, rfl⟩
          have kk4 : Dp.Keeps (Dp.Foot b p g) w (w3.drewN nn) := kk3.drewN nn
          have h4 := h3.still ((Dp.Keeps.refl (fun _ => False) w3).drewN nn)
          go_wp2
          go_roundw
          case rel => exact ⟨k + 1, _, by omega, by go_num, h4, kk4⟩
          case measure => simp [intOf]; omega
        | false =>
          have hst := (HL.out w2 kk2).1.row.cell 0
          simp only [List.getElem?_cons_zero] at hst
          have hsc := (HL.out w2 kk2).2
          go_wp2_with (refine Dp.wpList_load_in rfl 40 _ rfl wr.heap.size 0 rfl 40 [] _ _ HR2.out rfl _ Tryz.underlying40 rfl sizeOp ?_; intro _)
          refine (lawStep w2 W s b p g G vs vr m' kind n vA St false hs2 (by omega)).mono ?_
          rintro e w3 ⟨rfl, k3, h3⟩
          have kk3 : Dp.Keeps (Dp.Foot b p g) w w3 := kk2.trans k3
          have HK3 := Hid.mk_ (HL.out w3 kk3).1
          clear hst hsc o0 o4
          go_wp2_with fail
          refine (lawKept w3 W _ v1 v2 v3 v4 v5 HK3.out.row HK3.out.l1 HK3.out.l2 HK3.out.l3 HK3.out.l4 HK3.out.l5).mono ?_
          rintro e w4 ⟨rfl, nn, rfl⟩
          have kk4 : Dp.Keeps (Dp.Foot b p g) w (w3.drewN nn) := kk3.drewN nn
          have h4 := h3.still ((Dp.Keeps.refl (fun _ => False) w3).drewN nn)
          go_wp2
          go_roundw
          case rel => exact ⟨k + 1, _, by omega, by go_num, h4, kk4⟩
          case measure => simp [intOf]; omega
    · clear h
      go_wp2
      go_loopw [13, 14] (fun i _ wr => ∃ (k : Nat), k ≤ 1 ∧ i = .int .i64 k ∧ Dp.Side wr s b p g G vs vr m' ∧ Dp.Keeps (Dp.Foot b p g) w wr) (fun i _ _ => 1 - (intOf i).toNat)
      case atStart => exact ⟨0, Nat.zero_le _, rfl, hs, kk⟩
      case round =>
        obtain ⟨k, hk, rfl, hs, kk⟩ := hrel
        by_cases hlt : k < 1
        · have ek : k = 0 := by omega
          subst ek
          have hst := (HL.out wr kk).1.row.cell 0
          simp only [List.getElem?_cons_zero] at hst
          have hsc := (HL.out wr kk).2
          go_wp2_with fail
          refine (lawEnded wr W s b p g G vs vr m' hs).mono ?_
          rintro e w3 ⟨rfl, k3, h3⟩
          have kk3 : Dp.Keeps (Dp.Foot b p g) w w3 := kk.trans k3
          clear hst hsc
          go_wp2
          go_roundw
          case rel => exact ⟨1, by omega, by go_num, h3, kk3⟩
          case measure => simp [intOf]
        · have HK3 := Hid.mk_ (HL.out wr kk).1
          go_wp2_with fail
          refine (lawKept wr W _ v1 v2 v3 v4 v5 HK3.out.row HK3.out.l1 HK3.out.l2 HK3.out.l3 HK3.out.l4 HK3.out.l5).mono ?_
          rintro e w4 ⟨rfl, nn, rfl⟩
          go_wp2
          go_ret
          exact ⟨rfl, kk.drewN nn⟩

end Go.Proofs.YtdipojfngdceoaaGreatDoor

/- What stands in memory while a machine is opened. -/
namespace Go.Proofs.YtdipojfngdceoaaGreatDoor
open Go.RowKit

namespace Dp
def nilV : Value := .slice none 0 0
/-- The rows that were lent of the texts, in the blocks bs; and as they are handed in. -/
def lentL (srcs : List (List UInt8)) (bs : List Nat) : List Value := List.zipWith (fun s b => Value.slice (some ⟨b, 0, none⟩) (s.length + 2) (s.length + 2)) srcs bs
def cutL (srcs : List (List UInt8)) (bs : List Nat) : List Value := List.zipWith (fun s b => Value.slice (some ⟨b, 0, none⟩) s.length (s.length + 2)) srcs bs
theorem zipWith_snoc {α β γ : Type} (f : α → β → γ) : ∀ (xs : List α) (ys : List β) (y : β) (h : ys.length < xs.length), List.zipWith f xs (ys ++ [y]) = List.zipWith f xs ys ++ [f xs[ys.length] y]
  | [], ys, y, h => by simp at h
  | x :: xs, [], y, _ => by simp
  | x :: xs, z :: ys, y, h => by
    have := zipWith_snoc f xs ys y (by simpa using h)
    simp [this]
theorem lentL_length (srcs : List (List UInt8)) (bs : List Nat) (h : bs.length ≤ srcs.length) : (lentL srcs bs).length = bs.length := by simp [lentL]; omega
theorem cutL_length (srcs : List (List UInt8)) (bs : List Nat) (h : bs.length ≤ srcs.length) : (cutL srcs bs).length = bs.length := by simp [cutL]; omega
theorem lentL_get (srcs : List (List UInt8)) (bs : List Nat) (i : Nat) (h1 : i < srcs.length) (h2 : i < bs.length) : (lentL srcs bs)[i]? = some (.slice (some ⟨bs[i], 0, none⟩) (srcs[i].length + 2) (srcs[i].length + 2)) := by
  simp [lentL, List.getElem?_zipWith, h1, h2]
theorem cutL_get (srcs : List (List UInt8)) (bs : List Nat) (i : Nat) (h1 : i < srcs.length) (h2 : i < bs.length) : (cutL srcs bs)[i]? = some (.slice (some ⟨bs[i], 0, none⟩) srcs[i].length (srcs[i].length + 2)) := by
  simp [cutL, List.getElem?_zipWith, h1, h2]

/-- When the first texts have been lent, in the blocks bs. -/
structure O1 (w : World) (vW vT : Value) (words : List Int) (srcs : List (List UInt8)) (bs : List Nat) (vo : Value) (wr : World) : Prop where
  made : Row wr w.heap.size 36 [vW, vT]
  l : Row wr (w.heap.size + 1) 3 (regCells words ++ [.int .i64 0])
  s : Row wr (w.heap.size + 2) 78 (cutL srcs bs ++ List.replicate (srcs.length + 1 - bs.length) nilV)
  own : Own wr 47 vo (lentL srcs bs)
  fresh : ∀ q, vo.ownBlock = some q → w.heap.size + 3 ≤ q
  low : ∀ b ∈ bs, w.heap.size + 3 ≤ b
  dup : bs.Nodup
  rows : ∀ i (h1 : i < srcs.length) (h2 : i < bs.length), Row wr bs[i] 5 (vals (srcs[i] ++ [252, 253]))
  keeps : Keeps (fun _ => False) w wr
theorem O1.still {w : World} {vW vT : Value} {words : List Int} {srcs : List (List UInt8)} {bs : List Nat} {vo : Value} {wr wx : World} (h : O1 w vW vT words srcs bs vo wr) (k : Keeps (fun _ => False) wr wx) : O1 w vW vT words srcs bs vo wx :=
  ⟨h.made.keep k (fun e => e), h.l.keep k (fun e => e), h.s.keep k (fun e => e), h.own.keep k (fun _ _ e => e), h.fresh, h.low, h.dup, fun i h1 h2 => (h.rows i h1 h2).keep k (fun e => e), h.keeps.trans k⟩
theorem O1.lt {w : World} {vW vT : Value} {words : List Int} {srcs : List (List UInt8)} {bs : List Nat} {vo : Value} {wr : World} (h : O1 w vW vT words srcs bs vo wr) (hb : bs.length ≤ srcs.length) : ∀ b ∈ bs, b < wr.heap.size := by
  intro b hm
  obtain ⟨i, hi, rfl⟩ := List.getElem_of_mem hm
  exact (h.rows i (by omega) hi).lt
/-- One text more. -/
theorem O1.step {w : World} {vW vT : Value} {words : List Int} {srcs : List (List UInt8)} {bs : List Nat} {vo vo' : Value} {wr w1 w2 : World} (h : O1 w vW vT words srcs bs vo wr) (hk : bs.length < srcs.length)
    (r1 : Row w1 wr.heap.size 5 (vals (srcs[bs.length] ++ [252, 253]))) (k1 : Keeps (fun _ => False) wr w1)
    (o2 : Own w2 47 vo' (lentL srcs bs ++ [.slice (some ⟨wr.heap.size, 0, none⟩) (srcs[bs.length].length + 2) (srcs[bs.length].length + 2)])) (k2 : Keeps (fun q => vo.ownBlock = some q) w1 w2)
    (f2 : vo'.ownBlock = vo.ownBlock ∨ ∀ q, vo'.ownBlock = some q → wr.heap.size ≤ q) :
    O1 w vW vT words srcs (bs ++ [wr.heap.size]) vo' (w2.setCell ⟨w.heap.size + 2, bs.length, none⟩ (.slice (some ⟨wr.heap.size, 0, none⟩) srcs[bs.length].length (srcs[bs.length].length + 2))) := by
  have h1 := h.still k1
  have hsz := h.s.lt
  have hno : ∀ q, q < w.heap.size + 3 → ¬ vo.ownBlock = some q := fun q hq e => by have := h.fresh q e; omega
  have kset : Keeps (fun q => q = w.heap.size + 2) w2 (w2.setCell ⟨w.heap.size + 2, bs.length, none⟩ (.slice (some ⟨wr.heap.size, 0, none⟩) srcs[bs.length].length (srcs[bs.length].length + 2))) := Keeps.setCell (S := fun q => q = w.heap.size + 2) (p := ⟨w.heap.size + 2, bs.length, none⟩) (Keeps.refl _ _) (.inr rfl) _
  have s2 := h1.s.keep k2 (hno _ (by omega))
  refine ⟨(h1.made.keep k2 (hno _ (by omega))).keep kset (show ¬ w.heap.size = w.heap.size + 2 by omega), (h1.l.keep k2 (hno _ (by omega))).keep kset (show ¬ w.heap.size + 1 = w.heap.size + 2 by omega), ?_, ?_, ?_, ?_, ?_, ?_, ?_⟩
  · have hs := s2.set bs.length (.slice (some ⟨wr.heap.size, 0, none⟩) srcs[bs.length].length (srcs[bs.length].length + 2))
    have hl := cutL_length srcs bs (by omega)
    rw [List.set_append_right _ _ (by omega), hl, Nat.sub_self, show srcs.length + 1 - bs.length = (srcs.length + 1 - (bs.length + 1)) + 1 by omega, List.replicate_succ, List.set_cons_zero] at hs
    unfold cutL
    rw [zipWith_snoc _ _ _ _ hk, List.append_assoc, List.length_append]
    exact hs
  · unfold lentL
    rw [zipWith_snoc _ _ _ _ hk]
    exact o2.keep kset (fun q hq e => o2.ne s2 (by decide) q hq e)
  · intro q hq
    rcases f2 with e | e
    · exact h.fresh q (e ▸ hq)
    · have := e q hq; omega
  · intro b hb
    rw [List.mem_append, List.mem_singleton] at hb
    rcases hb with hb | hb
    · exact h.low b hb
    · omega
  · rw [List.nodup_append]
    refine ⟨h.dup, by simp, fun a ha b hb e => ?_⟩
    rw [List.mem_singleton] at hb
    have := h.lt (by omega) a ha
    omega
  · intro i hi1 hi2
    have hun : ∀ (q : Nat) (l : List Value), Row w1 q 5 l → Row (w2.setCell ⟨w.heap.size + 2, bs.length, none⟩ (.slice (some ⟨wr.heap.size, 0, none⟩) srcs[bs.length].length (srcs[bs.length].length + 2))) q 5 l := by
      intro q l hq
      have h3 := hq.keep k2 (fun e => (h1.own.ne hq (by decide) q e) rfl)
      exact h3.keep kset (fun e => h3.ne s2 (by decide) e)
    by_cases hik : i < bs.length
    · rw [List.getElem_append_left hik]
      exact hun _ _ (h1.rows i hi1 hik)
    · have hie : i = bs.length := by rw [List.length_append, List.length_singleton] at hi2; omega
      subst hie
      rw [List.getElem_append_right (Nat.le_refl _)]
      simp only [Nat.sub_self, List.getElem_cons_zero]
      exact hun _ _ r1
  · exact ((h.keeps.trans k1).next k2 (fun q hq e => hno q (by omega) e)).next kset (fun q hq e => by omega)
theorem O1.parts {w : World} {vW vT : Value} {words : List Int} {srcs : List (List UInt8)} {bs : List Nat} {vo : Value} {wr : World} (h : O1 w vW vT words srcs bs vo wr) (hb : bs.length = srcs.length) (hn : srcs.length ≤ 1048576) (hl : ∀ l ∈ srcs, l.length ≤ 1048576) (cap : Nat) : Parts wr (.slice (some ⟨w.heap.size + 2, 0, none⟩) srcs.length cap) srcs := by
  refine ⟨w.heap.size + 2, 0, some ⟨w.heap.size + 2, 0, none⟩, cap, rfl, by unfold maxLen; omega, fun _ => rfl, fun i hi => ?_⟩
  have hib : i < bs.length := by omega
  refine ⟨_, ?_, bs[i], 0, some ⟨bs[i], 0, none⟩, srcs[i].length + 2, rfl, ?_, fun _ => rfl, fun j hj => ?_⟩
  · rw [h.s.cell, Nat.zero_add, List.getElem?_append_left (by rw [cutL_length _ _ (by omega)]; exact hib), cutL_get srcs bs i hi hib]
  · have := hl _ (List.getElem_mem hi); unfold maxLen; omega
  · have hr := h.rows i hi hib
    rw [hr.cell, Nat.zero_add]
    simp [vals, List.getElem?_append_left, hj]
end Dp

end Go.Proofs.YtdipojfngdceoaaGreatDoor
