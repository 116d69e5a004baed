/- Steps on the way: ProgAlu2. -/
import Derived.Test.YtdipojfngdceoabGreatDoorPack12
import Derived.Test.YtdipojfngdceoabGreatDoorPack69
import Derived.Test.YtdipojfngdceoabGreatDoorProg
import Derived.WalkKit
import Derived.WalkSpells
import Derived.WalkLawsBesides
/- The program's core: shifts, less, and the jumps. -/
namespace Go.Proofs.YtdipojfngdceoabGreatDoor
open Go.RowKit


set_option maxRecDepth 100000 in
set_option maxHeartbeats 1000000 in
theorem progShl (s : Dp.Cs) (mem : Value) (i : Dp.Ins) (p : Nat) (w : World) (hs : s.Ok) (hi : i.Ok) (hp : Dp.Row w p 109 (Dp.coreCells s mem)) :
    Calls Tryz.prog 122 #[.pointer (some ⟨p, 0, none⟩), .agg (Dp.pinsCells i).toArray] w fun e w' => e = .returned (.int .i64 0) ∧ Dp.Row w' p 109 (Dp.coreCells (Dp.putted s i (Dp.shl (s.reg i.b) (s.reg i.c))) mem) ∧ Dp.Keeps (fun k => k = p) w w' := by
  go_enter Tryz.func122, Tryz.ntmps122
  go_wp2_with (refine Dp.wpList_box_row rfl 165 _ rfl (Dp.pinsCells i) rfl ?_)
  intro w1 r1 z1 k1
  have hp1 := hp.keep k1 (fun e => e)
  have q0 : ∀ wx, Dp.Keeps (fun _ => False) w1 wx → wx.cell? ⟨w.heap.size, 0, none⟩ = some (.int .u32 i.op) := fun wx kx => ((r1.keep kx (fun e => e)).pins).1
  have q1 : ∀ wx, Dp.Keeps (fun _ => False) w1 wx → wx.cell? ⟨w.heap.size, 1, none⟩ = some (.int .u32 i.a) := fun wx kx => ((r1.keep kx (fun e => e)).pins).2.1
  have q2 : ∀ wx, Dp.Keeps (fun _ => False) w1 wx → wx.cell? ⟨w.heap.size, 2, none⟩ = some (.int .u32 i.b) := fun wx kx => ((r1.keep kx (fun e => e)).pins).2.2.1
  have q3 : ∀ wx, Dp.Keeps (fun _ => False) w1 wx → wx.cell? ⟨w.heap.size, 3, none⟩ = some (.int .u32 i.c) := fun wx kx => ((r1.keep kx (fun e => e)).pins).2.2.2.1
  have q4 : ∀ wx, Dp.Keeps (fun _ => False) w1 wx → wx.cell? ⟨w.heap.size, 4, none⟩ = some (.int .u32 (Dp.wrap i.n)) := fun wx kx => ((r1.keep kx (fun e => e)).pins).2.2.2.2
  have qb : ∀ wx, Dp.Keeps (fun _ => False) w1 wx → wx.cell? ⟨p, 4 + i.b.toNat, none⟩ = some (.int .u32 (s.reg i.b)) := fun wx kx => (hp1.keep kx (fun e => e)).coreReg hs.len i.b hi.b
  have qc : ∀ wx, Dp.Keeps (fun _ => False) w1 wx → wx.cell? ⟨p, 4 + i.c.toNat, none⟩ = some (.int .u32 (s.reg i.c)) := fun wx kx => (hp1.keep kx (fun e => e)).coreReg hs.len i.c hi.c
  have hib := hi.b
  have hic := hi.c
  have hb := hs.reg i.b
  have hc := hs.reg i.c
  have hnw := Dp.wrap_word i.n
  unfold Dp.isWord at hb hc hnw
  have hS0 : Dp.Keeps (fun _ => False) w1 w1.drew := (Dp.Keeps.refl _ _).drew
  have hc0 : 0 ≤ (s.reg i.c).tmod 32 := by rw [Int.tmod_eq_emod_of_nonneg hc.1]; omega
  have hc1 : (s.reg i.c).tmod 32 ≤ 32 := by rw [Int.tmod_eq_emod_of_nonneg hc.1]; omega
  have HV : Hid (IntKind.u32.wrap (s.reg i.b * 2 ^ ((s.reg i.c).tmod 32).toNat) = Dp.shl (s.reg i.b) (s.reg i.c)) := by
    unfold Hid Dp.shl; rw [Int.tmod_eq_emod_of_nonneg hc.1, IntKind.wrap_u32]
  go_wp2
  refine Dp.wp_region_L (fun wx => Dp.Keeps (fun _ => False) w1 wx) 20 mixedP ?_
  refine' Dp.wpAnyL_take 0 rfl (by kernel_rfl) (fun _ _ _ h => h) (by rfl) ?hy0 hS0 ?rest0
  case hy0 => intro wx hSx; go_simp; try with_reducible rfl
  simp only [Act.put, List.getElem_toArray, List.getElem_cons_zero, List.setIfInBounds_toArray, List.set_cons_zero, List.set_cons_succ]
  refine' Dp.wpAnyL_take 1 rfl (by kernel_rfl) (fun _ _ _ h => h) (by rfl) ?hy1 hS0 ?rest1
  case hy1 => intro wx hSx; go_simp; try with_reducible rfl
  simp only [Act.put, List.getElem_toArray, List.getElem_cons_zero, List.getElem_cons_succ, List.setIfInBounds_toArray, List.set_cons_zero, List.set_cons_succ]
  refine' Dp.wpAnyL_take 2 rfl (by kernel_rfl) (fun _ _ _ h => h) (by rfl) ?hy2 hS0 ?rest2
  case hy2 => intro wx hSx; go_simp; try with_reducible rfl
  simp only [Act.put, List.getElem_toArray, List.getElem_cons_zero, List.getElem_cons_succ, List.setIfInBounds_toArray, List.set_cons_zero, List.set_cons_succ]
  refine' Dp.wpAnyL_take 3 rfl (by kernel_rfl) (fun _ _ _ h => h) (by rfl) ?hy3 hS0 ?rest3
  case hy3 => intro wx hSx; go_simp; try with_reducible rfl
  simp only [Act.put, List.getElem_toArray, List.getElem_cons_zero, List.getElem_cons_succ, List.setIfInBounds_toArray, List.set_cons_zero, List.set_cons_succ]
  refine' Dp.wpAnyL_take 4 rfl (by kernel_rfl) (fun _ _ _ h => h) (by rfl) ?hy4 hS0 ?rest4
  case hy4 => intro wx hSx; go_simp; try with_reducible rfl
  simp only [Act.put, List.getElem_toArray, List.getElem_cons_zero, List.getElem_cons_succ, List.setIfInBounds_toArray, List.set_cons_zero, List.set_cons_succ]
  refine' Dp.wpAnyL_take 5 rfl (by kernel_rfl) (fun _ _ _ h => h) (by rfl) ?hy5 hS0 ?rest5
  case hy5 => intro wx hSx; go_simp; try with_reducible rfl
  simp only [Act.put, List.getElem_toArray, List.getElem_cons_zero, List.getElem_cons_succ, List.setIfInBounds_toArray, List.set_cons_zero, List.set_cons_succ]
  refine' Dp.wpAnyL_take 6 rfl (by kernel_rfl) (fun _ _ _ h => h) (by rfl) ?hy6 hS0 ?rest6
  case hy6 => intro wx hSx; go_simp; try with_reducible rfl
  simp only [Act.put, List.getElem_toArray, List.getElem_cons_zero, List.getElem_cons_succ, List.setIfInBounds_toArray, List.set_cons_zero, List.set_cons_succ]
  refine' Dp.wpAnyL_take 7 rfl (by kernel_rfl) (fun _ _ _ h => h) (by rfl) ?hy7 hS0 ?rest7
  case hy7 => intro wx hSx; go_simp; try with_reducible rfl
  simp only [Act.put, List.getElem_toArray, List.getElem_cons_zero, List.getElem_cons_succ, List.setIfInBounds_toArray, List.set_cons_zero, List.set_cons_succ]
  refine' Dp.wpAnyL_take 8 rfl (by kernel_rfl) (fun _ _ _ h => h) (by rfl) ?hy8 hS0 ?rest8
  case hy8 => intro wx hSx; go_simp; try with_reducible rfl
  simp only [Act.put, List.getElem_toArray, List.getElem_cons_zero, List.getElem_cons_succ, List.setIfInBounds_toArray, List.set_cons_zero, List.set_cons_succ]
  refine' Dp.wpAnyL_take 9 rfl (by kernel_rfl) (fun _ _ _ h => h) (by rfl) ?hy9 hS0 ?rest9
  case hy9 => intro wx hSx; go_simp; try with_reducible rfl
  simp only [Act.put, List.getElem_toArray, List.getElem_cons_zero, List.getElem_cons_succ, List.setIfInBounds_toArray, List.set_cons_zero, List.set_cons_succ]
  refine' Dp.wpAnyL_take 10 rfl (by kernel_rfl) (fun _ _ _ h => h) (by rfl) ?hy10 hS0 ?rest10
  case hy10 => intro wx hSx; go_simp; try with_reducible rfl
  simp only [Act.put, List.getElem_toArray, List.getElem_cons_zero, List.getElem_cons_succ, List.setIfInBounds_toArray, List.set_cons_zero, List.set_cons_succ]
  refine' Dp.wpAnyL_take 11 rfl (by kernel_rfl) (fun _ _ _ h => h) (by rfl) ?hy11 hS0 ?rest11
  case hy11 => intro wx hSx; go_simp; try with_reducible rfl
  simp only [Act.put, List.getElem_toArray, List.getElem_cons_zero, List.getElem_cons_succ, List.setIfInBounds_toArray, List.set_cons_zero, List.set_cons_succ]
  refine' Dp.wpAnyL_take 12 rfl (by kernel_rfl) (fun _ _ _ h => h) (by rfl) ?hy12 hS0 ?rest12
  case hy12 => intro wx hSx; go_simp; try with_reducible rfl
  simp only [Act.put, List.getElem_toArray, List.getElem_cons_zero, List.getElem_cons_succ, List.setIfInBounds_toArray, List.set_cons_zero, List.set_cons_succ]
  refine' Dp.wpAnyL_take 13 rfl (by kernel_rfl) (fun _ _ _ h => h) (by rfl) ?hy13 hS0 ?rest13
  case hy13 => intro wx hSx; go_simp; try with_reducible rfl
  simp only [Act.put, List.getElem_toArray, List.getElem_cons_zero, List.getElem_cons_succ, List.setIfInBounds_toArray, List.set_cons_zero, List.set_cons_succ]
  refine' Dp.wpAnyL_take 14 rfl (by kernel_rfl) (fun _ _ _ h => h) (by rfl) ?hy14 hS0 ?rest14
  case hy14 => intro wx hSx; go_simp; try with_reducible rfl
  simp only [Act.put, List.getElem_toArray, List.getElem_cons_zero, List.getElem_cons_succ, List.setIfInBounds_toArray, List.set_cons_zero, List.set_cons_succ]
  refine' Dp.wpAnyL_take 15 rfl (by kernel_rfl) (fun _ _ _ h => h) (by rfl) ?hy15 hS0 ?rest15
  case hy15 => intro wx hSx; go_simp; try with_reducible rfl
  simp only [Act.put, List.getElem_toArray, List.getElem_cons_zero, List.getElem_cons_succ, List.setIfInBounds_toArray, List.set_cons_zero, List.set_cons_succ]
  refine' Dp.wpAnyL_take 16 rfl (by kernel_rfl) (fun _ _ _ h => h) (by rfl) ?hy16 hS0 ?rest16
  case hy16 => intro wx hSx; go_simp; try with_reducible rfl
  simp only [Act.put, List.getElem_toArray, List.getElem_cons_zero, List.getElem_cons_succ, List.setIfInBounds_toArray, List.set_cons_zero, List.set_cons_succ]
  refine' Dp.wpAnyL_take 17 rfl (by kernel_rfl) (fun _ _ _ h => h) (by rfl) ?hy17 hS0 ?rest17
  case hy17 => intro wx hSx; go_simp; try with_reducible rfl
  simp only [Act.put, List.getElem_toArray, List.getElem_cons_zero, List.getElem_cons_succ, List.setIfInBounds_toArray, List.set_cons_zero, List.set_cons_succ]
  refine' Dp.wpAnyL_take 18 rfl (by kernel_rfl) (fun _ _ _ h => h) (by rfl) ?hy18 hS0 ?rest18
  case hy18 => intro wx hSx; go_simp; try with_reducible rfl
  simp only [Act.put, List.getElem_toArray, List.getElem_cons_zero, List.getElem_cons_succ, List.setIfInBounds_toArray, List.set_cons_zero, List.set_cons_succ]
  refine' Dp.wpAnyL_take 19 rfl (by kernel_rfl) (fun _ _ _ h => h) (by rfl) ?hy19 hS0 ?rest19
  case hy19 => intro wx hSx; go_simp; try with_reducible rfl
  simp only [Act.put, List.getElem_toArray, List.getElem_cons_zero, List.getElem_cons_succ, List.setIfInBounds_toArray, List.set_cons_zero, List.set_cons_succ]
  refine Dp.wpAnyL_one 20 rfl (by kernel_rfl) (by rfl) (fun K hK => ?_)
  go_simp
  refine (progPut s mem i _ p _ hs hi hp1.drew).mono ?_
  rintro e w' ⟨rfl, hr, hk⟩
  refine hK _ _ ⟨fun h => absurd h (Nat.lt_irrefl _), ?_⟩
  clear hK K
  refine Dp.wpAnyL_one 21 rfl (by kernel_rfl) (by rfl) (fun K hK => ?_)
  go_simp
  refine hK _ _ ⟨fun h => absurd h (by decide), ?_⟩
  clear hK K
  refine Dp.wpAnyL_done (by kernel_rfl) ?_ _
  go_wp2
  go_ret
  rw [HV.out] at hr
  exact ⟨rfl, hr, (Dp.Keeps.mono (T := fun k => k = p) k1.drew (fun _ _ e => e.elim)).next hk (fun _ _ e => e)⟩

set_option maxRecDepth 100000 in
set_option maxHeartbeats 1000000 in
theorem progShr (s : Dp.Cs) (mem : Value) (i : Dp.Ins) (p : Nat) (w : World) (hs : s.Ok) (hi : i.Ok) (hp : Dp.Row w p 109 (Dp.coreCells s mem)) :
    Calls Tryz.prog 123 #[.pointer (some ⟨p, 0, none⟩), .agg (Dp.pinsCells i).toArray] w fun e w' => e = .returned (.int .i64 0) ∧ Dp.Row w' p 109 (Dp.coreCells (Dp.putted s i (Dp.shr (s.reg i.b) (s.reg i.c))) mem) ∧ Dp.Keeps (fun k => k = p) w w' := by
  go_enter Tryz.func123, Tryz.ntmps123
  go_wp2_with (refine Dp.wpList_box_row rfl 165 _ rfl (Dp.pinsCells i) rfl ?_)
  intro w1 r1 z1 k1
  have hp1 := hp.keep k1 (fun e => e)
  have q0 : ∀ wx, Dp.Keeps (fun _ => False) w1 wx → wx.cell? ⟨w.heap.size, 0, none⟩ = some (.int .u32 i.op) := fun wx kx => ((r1.keep kx (fun e => e)).pins).1
  have q1 : ∀ wx, Dp.Keeps (fun _ => False) w1 wx → wx.cell? ⟨w.heap.size, 1, none⟩ = some (.int .u32 i.a) := fun wx kx => ((r1.keep kx (fun e => e)).pins).2.1
  have q2 : ∀ wx, Dp.Keeps (fun _ => False) w1 wx → wx.cell? ⟨w.heap.size, 2, none⟩ = some (.int .u32 i.b) := fun wx kx => ((r1.keep kx (fun e => e)).pins).2.2.1
  have q3 : ∀ wx, Dp.Keeps (fun _ => False) w1 wx → wx.cell? ⟨w.heap.size, 3, none⟩ = some (.int .u32 i.c) := fun wx kx => ((r1.keep kx (fun e => e)).pins).2.2.2.1
  have q4 : ∀ wx, Dp.Keeps (fun _ => False) w1 wx → wx.cell? ⟨w.heap.size, 4, none⟩ = some (.int .u32 (Dp.wrap i.n)) := fun wx kx => ((r1.keep kx (fun e => e)).pins).2.2.2.2
  have qb : ∀ wx, Dp.Keeps (fun _ => False) w1 wx → wx.cell? ⟨p, 4 + i.b.toNat, none⟩ = some (.int .u32 (s.reg i.b)) := fun wx kx => (hp1.keep kx (fun e => e)).coreReg hs.len i.b hi.b
  have qc : ∀ wx, Dp.Keeps (fun _ => False) w1 wx → wx.cell? ⟨p, 4 + i.c.toNat, none⟩ = some (.int .u32 (s.reg i.c)) := fun wx kx => (hp1.keep kx (fun e => e)).coreReg hs.len i.c hi.c
  have hib := hi.b
  have hic := hi.c
  have hb := hs.reg i.b
  have hc := hs.reg i.c
  have hnw := Dp.wrap_word i.n
  unfold Dp.isWord at hb hc hnw
  have hS0 : Dp.Keeps (fun _ => False) w1 w1.drew := (Dp.Keeps.refl _ _).drew
  have hc0 : 0 ≤ (s.reg i.c).tmod 32 := by rw [Int.tmod_eq_emod_of_nonneg hc.1]; omega
  have hc1 : (s.reg i.c).tmod 32 ≤ 32 := by rw [Int.tmod_eq_emod_of_nonneg hc.1]; omega
  have HV : Hid (s.reg i.b / 2 ^ ((s.reg i.c).tmod 32).toNat = Dp.shr (s.reg i.b) (s.reg i.c)) := by
    unfold Hid Dp.shr; rw [Int.tmod_eq_emod_of_nonneg hc.1]
  go_wp2
  refine Dp.wp_region_L (fun wx => Dp.Keeps (fun _ => False) w1 wx) 20 mixedP ?_
  refine' Dp.wpAnyL_take 0 rfl (by kernel_rfl) (fun _ _ _ h => h) (by rfl) ?hy0 hS0 ?rest0
  case hy0 => intro wx hSx; go_simp; try with_reducible rfl
  simp only [Act.put, List.getElem_toArray, List.getElem_cons_zero, List.setIfInBounds_toArray, List.set_cons_zero, List.set_cons_succ]
  refine' Dp.wpAnyL_take 1 rfl (by kernel_rfl) (fun _ _ _ h => h) (by rfl) ?hy1 hS0 ?rest1
  case hy1 => intro wx hSx; go_simp; try with_reducible rfl
  simp only [Act.put, List.getElem_toArray, List.getElem_cons_zero, List.getElem_cons_succ, List.setIfInBounds_toArray, List.set_cons_zero, List.set_cons_succ]
  refine' Dp.wpAnyL_take 2 rfl (by kernel_rfl) (fun _ _ _ h => h) (by rfl) ?hy2 hS0 ?rest2
  case hy2 => intro wx hSx; go_simp; try with_reducible rfl
  simp only [Act.put, List.getElem_toArray, List.getElem_cons_zero, List.getElem_cons_succ, List.setIfInBounds_toArray, List.set_cons_zero, List.set_cons_succ]
  refine' Dp.wpAnyL_take 3 rfl (by kernel_rfl) (fun _ _ _ h => h) (by rfl) ?hy3 hS0 ?rest3
  case hy3 => intro wx hSx; go_simp; try with_reducible rfl
  simp only [Act.put, List.getElem_toArray, List.getElem_cons_zero, List.getElem_cons_succ, List.setIfInBounds_toArray, List.set_cons_zero, List.set_cons_succ]
  refine' Dp.wpAnyL_take 4 rfl (by kernel_rfl) (fun _ _ _ h => h) (by rfl) ?hy4 hS0 ?rest4
  case hy4 => intro wx hSx; go_simp; try with_reducible rfl
  simp only [Act.put, List.getElem_toArray, List.getElem_cons_zero, List.getElem_cons_succ, List.setIfInBounds_toArray, List.set_cons_zero, List.set_cons_succ]
  refine' Dp.wpAnyL_take 5 rfl (by kernel_rfl) (fun _ _ _ h => h) (by rfl) ?hy5 hS0 ?rest5
  case hy5 => intro wx hSx; go_simp; try with_reducible rfl
  simp only [Act.put, List.getElem_toArray, List.getElem_cons_zero, List.getElem_cons_succ, List.setIfInBounds_toArray, List.set_cons_zero, List.set_cons_succ]
  refine' Dp.wpAnyL_take 6 rfl (by kernel_rfl) (fun _ _ _ h => h) (by rfl) ?hy6 hS0 ?rest6
  case hy6 => intro wx hSx; go_simp; try with_reducible rfl
  simp only [Act.put, List.getElem_toArray, List.getElem_cons_zero, List.getElem_cons_succ, List.setIfInBounds_toArray, List.set_cons_zero, List.set_cons_succ]
  refine' Dp.wpAnyL_take 7 rfl (by kernel_rfl) (fun _ _ _ h => h) (by rfl) ?hy7 hS0 ?rest7
  case hy7 => intro wx hSx; go_simp; try with_reducible rfl
  simp only [Act.put, List.getElem_toArray, List.getElem_cons_zero, List.getElem_cons_succ, List.setIfInBounds_toArray, List.set_cons_zero, List.set_cons_succ]
  refine' Dp.wpAnyL_take 8 rfl (by kernel_rfl) (fun _ _ _ h => h) (by rfl) ?hy8 hS0 ?rest8
  case hy8 => intro wx hSx; go_simp; try with_reducible rfl
  simp only [Act.put, List.getElem_toArray, List.getElem_cons_zero, List.getElem_cons_succ, List.setIfInBounds_toArray, List.set_cons_zero, List.set_cons_succ]
  refine' Dp.wpAnyL_take 9 rfl (by kernel_rfl) (fun _ _ _ h => h) (by rfl) ?hy9 hS0 ?rest9
  case hy9 => intro wx hSx; go_simp; try with_reducible rfl
  simp only [Act.put, List.getElem_toArray, List.getElem_cons_zero, List.getElem_cons_succ, List.setIfInBounds_toArray, List.set_cons_zero, List.set_cons_succ]
  refine' Dp.wpAnyL_take 10 rfl (by kernel_rfl) (fun _ _ _ h => h) (by rfl) ?hy10 hS0 ?rest10
  case hy10 => intro wx hSx; go_simp; try with_reducible rfl
  simp only [Act.put, List.getElem_toArray, List.getElem_cons_zero, List.getElem_cons_succ, List.setIfInBounds_toArray, List.set_cons_zero, List.set_cons_succ]
  refine' Dp.wpAnyL_take 11 rfl (by kernel_rfl) (fun _ _ _ h => h) (by rfl) ?hy11 hS0 ?rest11
  case hy11 => intro wx hSx; go_simp; try with_reducible rfl
  simp only [Act.put, List.getElem_toArray, List.getElem_cons_zero, List.getElem_cons_succ, List.setIfInBounds_toArray, List.set_cons_zero, List.set_cons_succ]
  refine' Dp.wpAnyL_take 12 rfl (by kernel_rfl) (fun _ _ _ h => h) (by rfl) ?hy12 hS0 ?rest12
  case hy12 => intro wx hSx; go_simp; try with_reducible rfl
  simp only [Act.put, List.getElem_toArray, List.getElem_cons_zero, List.getElem_cons_succ, List.setIfInBounds_toArray, List.set_cons_zero, List.set_cons_succ]
  refine' Dp.wpAnyL_take 13 rfl (by kernel_rfl) (fun _ _ _ h => h) (by rfl) ?hy13 hS0 ?rest13
  case hy13 => intro wx hSx; go_simp; try with_reducible rfl
  simp only [Act.put, List.getElem_toArray, List.getElem_cons_zero, List.getElem_cons_succ, List.setIfInBounds_toArray, List.set_cons_zero, List.set_cons_succ]
  refine' Dp.wpAnyL_take 14 rfl (by kernel_rfl) (fun _ _ _ h => h) (by rfl) ?hy14 hS0 ?rest14
  case hy14 => intro wx hSx; go_simp; try with_reducible rfl
  simp only [Act.put, List.getElem_toArray, List.getElem_cons_zero, List.getElem_cons_succ, List.setIfInBounds_toArray, List.set_cons_zero, List.set_cons_succ]
  refine' Dp.wpAnyL_take 15 rfl (by kernel_rfl) (fun _ _ _ h => h) (by rfl) ?hy15 hS0 ?rest15
  case hy15 => intro wx hSx; go_simp; try with_reducible rfl
  simp only [Act.put, List.getElem_toArray, List.getElem_cons_zero, List.getElem_cons_succ, List.setIfInBounds_toArray, List.set_cons_zero, List.set_cons_succ]
  refine' Dp.wpAnyL_take 16 rfl (by kernel_rfl) (fun _ _ _ h => h) (by rfl) ?hy16 hS0 ?rest16
  case hy16 => intro wx hSx; go_simp; try with_reducible rfl
  simp only [Act.put, List.getElem_toArray, List.getElem_cons_zero, List.getElem_cons_succ, List.setIfInBounds_toArray, List.set_cons_zero, List.set_cons_succ]
  refine' Dp.wpAnyL_take 17 rfl (by kernel_rfl) (fun _ _ _ h => h) (by rfl) ?hy17 hS0 ?rest17
  case hy17 => intro wx hSx; go_simp; try with_reducible rfl
  simp only [Act.put, List.getElem_toArray, List.getElem_cons_zero, List.getElem_cons_succ, List.setIfInBounds_toArray, List.set_cons_zero, List.set_cons_succ]
  refine' Dp.wpAnyL_take 18 rfl (by kernel_rfl) (fun _ _ _ h => h) (by rfl) ?hy18 hS0 ?rest18
  case hy18 => intro wx hSx; go_simp; try with_reducible rfl
  simp only [Act.put, List.getElem_toArray, List.getElem_cons_zero, List.getElem_cons_succ, List.setIfInBounds_toArray, List.set_cons_zero, List.set_cons_succ]
  refine' Dp.wpAnyL_take 19 rfl (by kernel_rfl) (fun _ _ _ h => h) (by rfl) ?hy19 hS0 ?rest19
  case hy19 => intro wx hSx; go_simp; try with_reducible rfl
  simp only [Act.put, List.getElem_toArray, List.getElem_cons_zero, List.getElem_cons_succ, List.setIfInBounds_toArray, List.set_cons_zero, List.set_cons_succ]
  refine Dp.wpAnyL_one 20 rfl (by kernel_rfl) (by rfl) (fun K hK => ?_)
  go_simp
  refine (progPut s mem i _ p _ hs hi hp1.drew).mono ?_
  rintro e w' ⟨rfl, hr, hk⟩
  refine hK _ _ ⟨fun h => absurd h (Nat.lt_irrefl _), ?_⟩
  clear hK K
  refine Dp.wpAnyL_one 21 rfl (by kernel_rfl) (by rfl) (fun K hK => ?_)
  go_simp
  refine hK _ _ ⟨fun h => absurd h (by decide), ?_⟩
  clear hK K
  refine Dp.wpAnyL_done (by kernel_rfl) ?_ _
  go_wp2
  go_ret
  rw [HV.out] at hr
  exact ⟨rfl, hr, (Dp.Keeps.mono (T := fun k => k = p) k1.drew (fun _ _ e => e.elim)).next hk (fun _ _ e => e)⟩

set_option maxRecDepth 100000 in
set_option maxHeartbeats 1000000 in
theorem progSame (s : Dp.Cs) (mem : Value) (i : Dp.Ins) (p : Nat) (w : World) (hs : s.Ok) (hi : i.Ok) (hp : Dp.Row w p 109 (Dp.coreCells s mem)) :
    Calls Tryz.prog 130 #[.pointer (some ⟨p, 0, none⟩), .agg (Dp.pinsCells i).toArray] w fun e w' => e = .returned (.int .i64 0) ∧ Dp.Row w' p 109 (Dp.coreCells (Dp.jumped s i (s.reg i.a == s.reg i.b)) mem) ∧ Dp.Keeps (fun k => k = p) w w' := by
  go_enter Tryz.func130, Tryz.ntmps130
  go_wp2_with (refine Dp.wpList_box_row rfl 165 _ rfl (Dp.pinsCells i) rfl ?_)
  intro w1 r1 z1 k1
  have hp1 := hp.keep k1 (fun e => e)
  have q0 : ∀ wx, Dp.Keeps (fun _ => False) w1 wx → wx.cell? ⟨w.heap.size, 0, none⟩ = some (.int .u32 i.op) := fun wx kx => ((r1.keep kx (fun e => e)).pins).1
  have q1 : ∀ wx, Dp.Keeps (fun _ => False) w1 wx → wx.cell? ⟨w.heap.size, 1, none⟩ = some (.int .u32 i.a) := fun wx kx => ((r1.keep kx (fun e => e)).pins).2.1
  have q2 : ∀ wx, Dp.Keeps (fun _ => False) w1 wx → wx.cell? ⟨w.heap.size, 2, none⟩ = some (.int .u32 i.b) := fun wx kx => ((r1.keep kx (fun e => e)).pins).2.2.1
  have q3 : ∀ wx, Dp.Keeps (fun _ => False) w1 wx → wx.cell? ⟨w.heap.size, 3, none⟩ = some (.int .u32 i.c) := fun wx kx => ((r1.keep kx (fun e => e)).pins).2.2.2.1
  have q4 : ∀ wx, Dp.Keeps (fun _ => False) w1 wx → wx.cell? ⟨w.heap.size, 4, none⟩ = some (.int .u32 (Dp.wrap i.n)) := fun wx kx => ((r1.keep kx (fun e => e)).pins).2.2.2.2
  have qb : ∀ wx, Dp.Keeps (fun _ => False) w1 wx → wx.cell? ⟨p, 4 + i.b.toNat, none⟩ = some (.int .u32 (s.reg i.b)) := fun wx kx => (hp1.keep kx (fun e => e)).coreReg hs.len i.b hi.b
  have qc : ∀ wx, Dp.Keeps (fun _ => False) w1 wx → wx.cell? ⟨p, 4 + i.a.toNat, none⟩ = some (.int .u32 (s.reg i.a)) := fun wx kx => (hp1.keep kx (fun e => e)).coreReg hs.len i.a hi.a
  have hib := hi.b
  have hic := hi.a
  have hb := hs.reg i.b
  have hc := hs.reg i.c
  have hnw := Dp.wrap_word i.n
  unfold Dp.isWord at hb hc hnw
  have hS0 : Dp.Keeps (fun _ => False) w1 w1.drew := (Dp.Keeps.refl _ _).drew
  go_wp2
  refine Dp.wp_region_L (fun wx => Dp.Keeps (fun _ => False) w1 wx) 19 mixedP ?_
  refine' Dp.wpAnyL_take 0 rfl (by kernel_rfl) (fun _ _ _ h => h) (by rfl) ?hy0 hS0 ?rest0
  case hy0 => intro wx hSx; go_simp; try with_reducible rfl
  simp only [Act.put, List.getElem_toArray, List.getElem_cons_zero, List.setIfInBounds_toArray, List.set_cons_zero, List.set_cons_succ]
  refine' Dp.wpAnyL_take 1 rfl (by kernel_rfl) (fun _ _ _ h => h) (by rfl) ?hy1 hS0 ?rest1
  case hy1 => intro wx hSx; go_simp; try with_reducible rfl
  simp only [Act.put, List.getElem_toArray, List.getElem_cons_zero, List.getElem_cons_succ, List.setIfInBounds_toArray, List.set_cons_zero, List.set_cons_succ]
  refine' Dp.wpAnyL_take 2 rfl (by kernel_rfl) (fun _ _ _ h => h) (by rfl) ?hy2 hS0 ?rest2
  case hy2 => intro wx hSx; go_simp; try with_reducible rfl
  simp only [Act.put, List.getElem_toArray, List.getElem_cons_zero, List.getElem_cons_succ, List.setIfInBounds_toArray, List.set_cons_zero, List.set_cons_succ]
  refine' Dp.wpAnyL_take 3 rfl (by kernel_rfl) (fun _ _ _ h => h) (by rfl) ?hy3 hS0 ?rest3
  case hy3 => intro wx hSx; go_simp; try with_reducible rfl
  simp only [Act.put, List.getElem_toArray, List.getElem_cons_zero, List.getElem_cons_succ, List.setIfInBounds_toArray, List.set_cons_zero, List.set_cons_succ]
  refine' Dp.wpAnyL_take 4 rfl (by kernel_rfl) (fun _ _ _ h => h) (by rfl) ?hy4 hS0 ?rest4
  case hy4 => intro wx hSx; go_simp; try with_reducible rfl
  simp only [Act.put, List.getElem_toArray, List.getElem_cons_zero, List.getElem_cons_succ, List.setIfInBounds_toArray, List.set_cons_zero, List.set_cons_succ]
  refine' Dp.wpAnyL_take 5 rfl (by kernel_rfl) (fun _ _ _ h => h) (by rfl) ?hy5 hS0 ?rest5
  case hy5 => intro wx hSx; go_simp; try with_reducible rfl
  simp only [Act.put, List.getElem_toArray, List.getElem_cons_zero, List.getElem_cons_succ, List.setIfInBounds_toArray, List.set_cons_zero, List.set_cons_succ]
  refine' Dp.wpAnyL_take 6 rfl (by kernel_rfl) (fun _ _ _ h => h) (by rfl) ?hy6 hS0 ?rest6
  case hy6 => intro wx hSx; go_simp; try with_reducible rfl
  simp only [Act.put, List.getElem_toArray, List.getElem_cons_zero, List.getElem_cons_succ, List.setIfInBounds_toArray, List.set_cons_zero, List.set_cons_succ]
  refine' Dp.wpAnyL_take 7 rfl (by kernel_rfl) (fun _ _ _ h => h) (by rfl) ?hy7 hS0 ?rest7
  case hy7 => intro wx hSx; go_simp; try with_reducible rfl
  simp only [Act.put, List.getElem_toArray, List.getElem_cons_zero, List.getElem_cons_succ, List.setIfInBounds_toArray, List.set_cons_zero, List.set_cons_succ]
  refine' Dp.wpAnyL_take 8 rfl (by kernel_rfl) (fun _ _ _ h => h) (by rfl) ?hy8 hS0 ?rest8
  case hy8 => intro wx hSx; go_simp; try with_reducible rfl
  simp only [Act.put, List.getElem_toArray, List.getElem_cons_zero, List.getElem_cons_succ, List.setIfInBounds_toArray, List.set_cons_zero, List.set_cons_succ]
  refine' Dp.wpAnyL_take 9 rfl (by kernel_rfl) (fun _ _ _ h => h) (by rfl) ?hy9 hS0 ?rest9
  case hy9 => intro wx hSx; go_simp; try with_reducible rfl
  simp only [Act.put, List.getElem_toArray, List.getElem_cons_zero, List.getElem_cons_succ, List.setIfInBounds_toArray, List.set_cons_zero, List.set_cons_succ]
  refine' Dp.wpAnyL_take 10 rfl (by kernel_rfl) (fun _ _ _ h => h) (by rfl) ?hy10 hS0 ?rest10
  case hy10 => intro wx hSx; go_simp; try with_reducible rfl
  simp only [Act.put, List.getElem_toArray, List.getElem_cons_zero, List.getElem_cons_succ, List.setIfInBounds_toArray, List.set_cons_zero, List.set_cons_succ]
  refine' Dp.wpAnyL_take 11 rfl (by kernel_rfl) (fun _ _ _ h => h) (by rfl) ?hy11 hS0 ?rest11
  case hy11 => intro wx hSx; go_simp; try with_reducible rfl
  simp only [Act.put, List.getElem_toArray, List.getElem_cons_zero, List.getElem_cons_succ, List.setIfInBounds_toArray, List.set_cons_zero, List.set_cons_succ]
  refine' Dp.wpAnyL_take 12 rfl (by kernel_rfl) (fun _ _ _ h => h) (by rfl) ?hy12 hS0 ?rest12
  case hy12 => intro wx hSx; go_simp; try with_reducible rfl
  simp only [Act.put, List.getElem_toArray, List.getElem_cons_zero, List.getElem_cons_succ, List.setIfInBounds_toArray, List.set_cons_zero, List.set_cons_succ]
  refine' Dp.wpAnyL_take 13 rfl (by kernel_rfl) (fun _ _ _ h => h) (by rfl) ?hy13 hS0 ?rest13
  case hy13 => intro wx hSx; go_simp; try with_reducible rfl
  simp only [Act.put, List.getElem_toArray, List.getElem_cons_zero, List.getElem_cons_succ, List.setIfInBounds_toArray, List.set_cons_zero, List.set_cons_succ]
  refine' Dp.wpAnyL_take 14 rfl (by kernel_rfl) (fun _ _ _ h => h) (by rfl) ?hy14 hS0 ?rest14
  case hy14 => intro wx hSx; go_simp; try with_reducible rfl
  simp only [Act.put, List.getElem_toArray, List.getElem_cons_zero, List.getElem_cons_succ, List.setIfInBounds_toArray, List.set_cons_zero, List.set_cons_succ]
  refine' Dp.wpAnyL_take 15 rfl (by kernel_rfl) (fun _ _ _ h => h) (by rfl) ?hy15 hS0 ?rest15
  case hy15 => intro wx hSx; go_simp; try with_reducible rfl
  simp only [Act.put, List.getElem_toArray, List.getElem_cons_zero, List.getElem_cons_succ, List.setIfInBounds_toArray, List.set_cons_zero, List.set_cons_succ]
  refine' Dp.wpAnyL_take 16 rfl (by kernel_rfl) (fun _ _ _ h => h) (by rfl) ?hy16 hS0 ?rest16
  case hy16 => intro wx hSx; go_simp; try with_reducible rfl
  simp only [Act.put, List.getElem_toArray, List.getElem_cons_zero, List.getElem_cons_succ, List.setIfInBounds_toArray, List.set_cons_zero, List.set_cons_succ]
  refine' Dp.wpAnyL_take 17 rfl (by kernel_rfl) (fun _ _ _ h => h) (by rfl) ?hy17 hS0 ?rest17
  case hy17 => intro wx hSx; go_simp; try with_reducible rfl
  simp only [Act.put, List.getElem_toArray, List.getElem_cons_zero, List.getElem_cons_succ, List.setIfInBounds_toArray, List.set_cons_zero, List.set_cons_succ]
  refine' Dp.wpAnyL_take 18 rfl (by kernel_rfl) (fun _ _ _ h => h) (by rfl) ?hy18 hS0 ?rest18
  case hy18 => intro wx hSx; go_simp; try with_reducible rfl
  simp only [Act.put, List.getElem_toArray, List.getElem_cons_zero, List.getElem_cons_succ, List.setIfInBounds_toArray, List.set_cons_zero, List.set_cons_succ]
  refine Dp.wpAnyL_one 19 rfl (by kernel_rfl) (by rfl) (fun K hK => ?_)
  go_simp
  refine (progJump s mem i _ p _ hs hp1.drew).mono ?_
  rintro e w' ⟨rfl, hr, hk⟩
  refine hK _ _ ⟨fun h => absurd h (Nat.lt_irrefl _), ?_⟩
  clear hK K
  refine Dp.wpAnyL_one 20 rfl (by kernel_rfl) (by rfl) (fun K hK => ?_)
  go_simp
  refine hK _ _ ⟨fun h => absurd h (by decide), ?_⟩
  clear hK K
  refine Dp.wpAnyL_done (by kernel_rfl) ?_ _
  go_wp2
  go_ret
  exact ⟨rfl, hr, (Dp.Keeps.mono (T := fun k => k = p) k1.drew (fun _ _ e => e.elim)).next hk (fun _ _ e => e)⟩

set_option maxRecDepth 100000 in
set_option maxHeartbeats 1000000 in
theorem progOther (s : Dp.Cs) (mem : Value) (i : Dp.Ins) (p : Nat) (w : World) (hs : s.Ok) (hi : i.Ok) (hp : Dp.Row w p 109 (Dp.coreCells s mem)) :
    Calls Tryz.prog 131 #[.pointer (some ⟨p, 0, none⟩), .agg (Dp.pinsCells i).toArray] w fun e w' => e = .returned (.int .i64 0) ∧ Dp.Row w' p 109 (Dp.coreCells (Dp.jumped s i (s.reg i.a != s.reg i.b)) mem) ∧ Dp.Keeps (fun k => k = p) w w' := by
  go_enter Tryz.func131, Tryz.ntmps131
  go_wp2_with (refine Dp.wpList_box_row rfl 165 _ rfl (Dp.pinsCells i) rfl ?_)
  intro w1 r1 z1 k1
  have hp1 := hp.keep k1 (fun e => e)
  have q0 : ∀ wx, Dp.Keeps (fun _ => False) w1 wx → wx.cell? ⟨w.heap.size, 0, none⟩ = some (.int .u32 i.op) := fun wx kx => ((r1.keep kx (fun e => e)).pins).1
  have q1 : ∀ wx, Dp.Keeps (fun _ => False) w1 wx → wx.cell? ⟨w.heap.size, 1, none⟩ = some (.int .u32 i.a) := fun wx kx => ((r1.keep kx (fun e => e)).pins).2.1
  have q2 : ∀ wx, Dp.Keeps (fun _ => False) w1 wx → wx.cell? ⟨w.heap.size, 2, none⟩ = some (.int .u32 i.b) := fun wx kx => ((r1.keep kx (fun e => e)).pins).2.2.1
  have q3 : ∀ wx, Dp.Keeps (fun _ => False) w1 wx → wx.cell? ⟨w.heap.size, 3, none⟩ = some (.int .u32 i.c) := fun wx kx => ((r1.keep kx (fun e => e)).pins).2.2.2.1
  have q4 : ∀ wx, Dp.Keeps (fun _ => False) w1 wx → wx.cell? ⟨w.heap.size, 4, none⟩ = some (.int .u32 (Dp.wrap i.n)) := fun wx kx => ((r1.keep kx (fun e => e)).pins).2.2.2.2
  have qb : ∀ wx, Dp.Keeps (fun _ => False) w1 wx → wx.cell? ⟨p, 4 + i.b.toNat, none⟩ = some (.int .u32 (s.reg i.b)) := fun wx kx => (hp1.keep kx (fun e => e)).coreReg hs.len i.b hi.b
  have qc : ∀ wx, Dp.Keeps (fun _ => False) w1 wx → wx.cell? ⟨p, 4 + i.a.toNat, none⟩ = some (.int .u32 (s.reg i.a)) := fun wx kx => (hp1.keep kx (fun e => e)).coreReg hs.len i.a hi.a
  have hib := hi.b
  have hic := hi.a
  have hb := hs.reg i.b
  have hc := hs.reg i.c
  have hnw := Dp.wrap_word i.n
  unfold Dp.isWord at hb hc hnw
  have hS0 : Dp.Keeps (fun _ => False) w1 w1.drew := (Dp.Keeps.refl _ _).drew
  go_wp2
  refine Dp.wp_region_L (fun wx => Dp.Keeps (fun _ => False) w1 wx) 19 mixedP ?_
  refine' Dp.wpAnyL_take 0 rfl (by kernel_rfl) (fun _ _ _ h => h) (by rfl) ?hy0 hS0 ?rest0
  case hy0 => intro wx hSx; go_simp; try with_reducible rfl
  simp only [Act.put, List.getElem_toArray, List.getElem_cons_zero, List.setIfInBounds_toArray, List.set_cons_zero, List.set_cons_succ]
  refine' Dp.wpAnyL_take 1 rfl (by kernel_rfl) (fun _ _ _ h => h) (by rfl) ?hy1 hS0 ?rest1
  case hy1 => intro wx hSx; go_simp; try with_reducible rfl
  simp only [Act.put, List.getElem_toArray, List.getElem_cons_zero, List.getElem_cons_succ, List.setIfInBounds_toArray, List.set_cons_zero, List.set_cons_succ]
  refine' Dp.wpAnyL_take 2 rfl (by kernel_rfl) (fun _ _ _ h => h) (by rfl) ?hy2 hS0 ?rest2
  case hy2 => intro wx hSx; go_simp; try with_reducible rfl
  simp only [Act.put, List.getElem_toArray, List.getElem_cons_zero, List.getElem_cons_succ, List.setIfInBounds_toArray, List.set_cons_zero, List.set_cons_succ]
  refine' Dp.wpAnyL_take 3 rfl (by kernel_rfl) (fun _ _ _ h => h) (by rfl) ?hy3 hS0 ?rest3
  case hy3 => intro wx hSx; go_simp; try with_reducible rfl
  simp only [Act.put, List.getElem_toArray, List.getElem_cons_zero, List.getElem_cons_succ, List.setIfInBounds_toArray, List.set_cons_zero, List.set_cons_succ]
  refine' Dp.wpAnyL_take 4 rfl (by kernel_rfl) (fun _ _ _ h => h) (by rfl) ?hy4 hS0 ?rest4
  case hy4 => intro wx hSx; go_simp; try with_reducible rfl
  simp only [Act.put, List.getElem_toArray, List.getElem_cons_zero, List.getElem_cons_succ, List.setIfInBounds_toArray, List.set_cons_zero, List.set_cons_succ]
  refine' Dp.wpAnyL_take 5 rfl (by kernel_rfl) (fun _ _ _ h => h) (by rfl) ?hy5 hS0 ?rest5
  case hy5 => intro wx hSx; go_simp; try with_reducible rfl
  simp only [Act.put, List.getElem_toArray, List.getElem_cons_zero, List.getElem_cons_succ, List.setIfInBounds_toArray, List.set_cons_zero, List.set_cons_succ]
  refine' Dp.wpAnyL_take 6 rfl (by kernel_rfl) (fun _ _ _ h => h) (by rfl) ?hy6 hS0 ?rest6
  case hy6 => intro wx hSx; go_simp; try with_reducible rfl
  simp only [Act.put, List.getElem_toArray, List.getElem_cons_zero, List.getElem_cons_succ, List.setIfInBounds_toArray, List.set_cons_zero, List.set_cons_succ]
  refine' Dp.wpAnyL_take 7 rfl (by kernel_rfl) (fun _ _ _ h => h) (by rfl) ?hy7 hS0 ?rest7
  case hy7 => intro wx hSx; go_simp; try with_reducible rfl
  simp only [Act.put, List.getElem_toArray, List.getElem_cons_zero, List.getElem_cons_succ, List.setIfInBounds_toArray, List.set_cons_zero, List.set_cons_succ]
  refine' Dp.wpAnyL_take 8 rfl (by kernel_rfl) (fun _ _ _ h => h) (by rfl) ?hy8 hS0 ?rest8
  case hy8 => intro wx hSx; go_simp; try with_reducible rfl
  simp only [Act.put, List.getElem_toArray, List.getElem_cons_zero, List.getElem_cons_succ, List.setIfInBounds_toArray, List.set_cons_zero, List.set_cons_succ]
  refine' Dp.wpAnyL_take 9 rfl (by kernel_rfl) (fun _ _ _ h => h) (by rfl) ?hy9 hS0 ?rest9
  case hy9 => intro wx hSx; go_simp; try with_reducible rfl
  simp only [Act.put, List.getElem_toArray, List.getElem_cons_zero, List.getElem_cons_succ, List.setIfInBounds_toArray, List.set_cons_zero, List.set_cons_succ]
  refine' Dp.wpAnyL_take 10 rfl (by kernel_rfl) (fun _ _ _ h => h) (by rfl) ?hy10 hS0 ?rest10
  case hy10 => intro wx hSx; go_simp; try with_reducible rfl
  simp only [Act.put, List.getElem_toArray, List.getElem_cons_zero, List.getElem_cons_succ, List.setIfInBounds_toArray, List.set_cons_zero, List.set_cons_succ]
  refine' Dp.wpAnyL_take 11 rfl (by kernel_rfl) (fun _ _ _ h => h) (by rfl) ?hy11 hS0 ?rest11
  case hy11 => intro wx hSx; go_simp; try with_reducible rfl
  simp only [Act.put, List.getElem_toArray, List.getElem_cons_zero, List.getElem_cons_succ, List.setIfInBounds_toArray, List.set_cons_zero, List.set_cons_succ]
  refine' Dp.wpAnyL_take 12 rfl (by kernel_rfl) (fun _ _ _ h => h) (by rfl) ?hy12 hS0 ?rest12
  case hy12 => intro wx hSx; go_simp; try with_reducible rfl
  simp only [Act.put, List.getElem_toArray, List.getElem_cons_zero, List.getElem_cons_succ, List.setIfInBounds_toArray, List.set_cons_zero, List.set_cons_succ]
  refine' Dp.wpAnyL_take 13 rfl (by kernel_rfl) (fun _ _ _ h => h) (by rfl) ?hy13 hS0 ?rest13
  case hy13 => intro wx hSx; go_simp; try with_reducible rfl
  simp only [Act.put, List.getElem_toArray, List.getElem_cons_zero, List.getElem_cons_succ, List.setIfInBounds_toArray, List.set_cons_zero, List.set_cons_succ]
  refine' Dp.wpAnyL_take 14 rfl (by kernel_rfl) (fun _ _ _ h => h) (by rfl) ?hy14 hS0 ?rest14
  case hy14 => intro wx hSx; go_simp; try with_reducible rfl
  simp only [Act.put, List.getElem_toArray, List.getElem_cons_zero, List.getElem_cons_succ, List.setIfInBounds_toArray, List.set_cons_zero, List.set_cons_succ]
  refine' Dp.wpAnyL_take 15 rfl (by kernel_rfl) (fun _ _ _ h => h) (by rfl) ?hy15 hS0 ?rest15
  case hy15 => intro wx hSx; go_simp; try with_reducible rfl
  simp only [Act.put, List.getElem_toArray, List.getElem_cons_zero, List.getElem_cons_succ, List.setIfInBounds_toArray, List.set_cons_zero, List.set_cons_succ]
  refine' Dp.wpAnyL_take 16 rfl (by kernel_rfl) (fun _ _ _ h => h) (by rfl) ?hy16 hS0 ?rest16
  case hy16 => intro wx hSx; go_simp; try with_reducible rfl
  simp only [Act.put, List.getElem_toArray, List.getElem_cons_zero, List.getElem_cons_succ, List.setIfInBounds_toArray, List.set_cons_zero, List.set_cons_succ]
  refine' Dp.wpAnyL_take 17 rfl (by kernel_rfl) (fun _ _ _ h => h) (by rfl) ?hy17 hS0 ?rest17
  case hy17 => intro wx hSx; go_simp; try with_reducible rfl
  simp only [Act.put, List.getElem_toArray, List.getElem_cons_zero, List.getElem_cons_succ, List.setIfInBounds_toArray, List.set_cons_zero, List.set_cons_succ]
  refine' Dp.wpAnyL_take 18 rfl (by kernel_rfl) (fun _ _ _ h => h) (by rfl) ?hy18 hS0 ?rest18
  case hy18 => intro wx hSx; go_simp; try with_reducible rfl
  simp only [Act.put, List.getElem_toArray, List.getElem_cons_zero, List.getElem_cons_succ, List.setIfInBounds_toArray, List.set_cons_zero, List.set_cons_succ]
  refine Dp.wpAnyL_one 19 rfl (by kernel_rfl) (by rfl) (fun K hK => ?_)
  go_simp
  refine (progJump s mem i _ p _ hs hp1.drew).mono ?_
  rintro e w' ⟨rfl, hr, hk⟩
  refine hK _ _ ⟨fun h => absurd h (Nat.lt_irrefl _), ?_⟩
  clear hK K
  refine Dp.wpAnyL_one 20 rfl (by kernel_rfl) (by rfl) (fun K hK => ?_)
  go_simp
  refine hK _ _ ⟨fun h => absurd h (by decide), ?_⟩
  clear hK K
  refine Dp.wpAnyL_done (by kernel_rfl) ?_ _
  go_wp2
  go_ret
  exact ⟨rfl, hr, (Dp.Keeps.mono (T := fun k => k = p) k1.drew (fun _ _ e => e.elim)).next hk (fun _ _ e => e)⟩

set_option maxRecDepth 100000 in
set_option maxHeartbeats 1000000 in
theorem progUnder (s : Dp.Cs) (mem : Value) (i : Dp.Ins) (p : Nat) (w : World) (hs : s.Ok) (hi : i.Ok) (hp : Dp.Row w p 109 (Dp.coreCells s mem)) :
    Calls Tryz.prog 132 #[.pointer (some ⟨p, 0, none⟩), .agg (Dp.pinsCells i).toArray] w fun e w' => e = .returned (.int .i64 0) ∧ Dp.Row w' p 109 (Dp.coreCells (Dp.jumped s i (s.reg i.a < s.reg i.b)) mem) ∧ Dp.Keeps (fun k => k = p) w w' := by
  go_enter Tryz.func132, Tryz.ntmps132
  go_wp2_with (refine Dp.wpList_box_row rfl 165 _ rfl (Dp.pinsCells i) rfl ?_)
  intro w1 r1 z1 k1
  have hp1 := hp.keep k1 (fun e => e)
  have q0 : ∀ wx, Dp.Keeps (fun _ => False) w1 wx → wx.cell? ⟨w.heap.size, 0, none⟩ = some (.int .u32 i.op) := fun wx kx => ((r1.keep kx (fun e => e)).pins).1
  have q1 : ∀ wx, Dp.Keeps (fun _ => False) w1 wx → wx.cell? ⟨w.heap.size, 1, none⟩ = some (.int .u32 i.a) := fun wx kx => ((r1.keep kx (fun e => e)).pins).2.1
  have q2 : ∀ wx, Dp.Keeps (fun _ => False) w1 wx → wx.cell? ⟨w.heap.size, 2, none⟩ = some (.int .u32 i.b) := fun wx kx => ((r1.keep kx (fun e => e)).pins).2.2.1
  have q3 : ∀ wx, Dp.Keeps (fun _ => False) w1 wx → wx.cell? ⟨w.heap.size, 3, none⟩ = some (.int .u32 i.c) := fun wx kx => ((r1.keep kx (fun e => e)).pins).2.2.2.1
  have q4 : ∀ wx, Dp.Keeps (fun _ => False) w1 wx → wx.cell? ⟨w.heap.size, 4, none⟩ = some (.int .u32 (Dp.wrap i.n)) := fun wx kx => ((r1.keep kx (fun e => e)).pins).2.2.2.2
  have qb : ∀ wx, Dp.Keeps (fun _ => False) w1 wx → wx.cell? ⟨p, 4 + i.b.toNat, none⟩ = some (.int .u32 (s.reg i.b)) := fun wx kx => (hp1.keep kx (fun e => e)).coreReg hs.len i.b hi.b
  have qc : ∀ wx, Dp.Keeps (fun _ => False) w1 wx → wx.cell? ⟨p, 4 + i.a.toNat, none⟩ = some (.int .u32 (s.reg i.a)) := fun wx kx => (hp1.keep kx (fun e => e)).coreReg hs.len i.a hi.a
  have hib := hi.b
  have hic := hi.a
  have hb := hs.reg i.b
  have hc := hs.reg i.c
  have hnw := Dp.wrap_word i.n
  unfold Dp.isWord at hb hc hnw
  have hS0 : Dp.Keeps (fun _ => False) w1 w1.drew := (Dp.Keeps.refl _ _).drew
  go_wp2
  refine Dp.wp_region_L (fun wx => Dp.Keeps (fun _ => False) w1 wx) 19 mixedP ?_
  refine' Dp.wpAnyL_take 0 rfl (by kernel_rfl) (fun _ _ _ h => h) (by rfl) ?hy0 hS0 ?rest0
  case hy0 => intro wx hSx; go_simp; try with_reducible rfl
  simp only [Act.put, List.getElem_toArray, List.getElem_cons_zero, List.setIfInBounds_toArray, List.set_cons_zero, List.set_cons_succ]
  refine' Dp.wpAnyL_take 1 rfl (by kernel_rfl) (fun _ _ _ h => h) (by rfl) ?hy1 hS0 ?rest1
  case hy1 => intro wx hSx; go_simp; try with_reducible rfl
  simp only [Act.put, List.getElem_toArray, List.getElem_cons_zero, List.getElem_cons_succ, List.setIfInBounds_toArray, List.set_cons_zero, List.set_cons_succ]
  refine' Dp.wpAnyL_take 2 rfl (by kernel_rfl) (fun _ _ _ h => h) (by rfl) ?hy2 hS0 ?rest2
  case hy2 => intro wx hSx; go_simp; try with_reducible rfl
  simp only [Act.put, List.getElem_toArray, List.getElem_cons_zero, List.getElem_cons_succ, List.setIfInBounds_toArray, List.set_cons_zero, List.set_cons_succ]
  refine' Dp.wpAnyL_take 3 rfl (by kernel_rfl) (fun _ _ _ h => h) (by rfl) ?hy3 hS0 ?rest3
  case hy3 => intro wx hSx; go_simp; try with_reducible rfl
  simp only [Act.put, List.getElem_toArray, List.getElem_cons_zero, List.getElem_cons_succ, List.setIfInBounds_toArray, List.set_cons_zero, List.set_cons_succ]
  refine' Dp.wpAnyL_take 4 rfl (by kernel_rfl) (fun _ _ _ h => h) (by rfl) ?hy4 hS0 ?rest4
  case hy4 => intro wx hSx; go_simp; try with_reducible rfl
  simp only [Act.put, List.getElem_toArray, List.getElem_cons_zero, List.getElem_cons_succ, List.setIfInBounds_toArray, List.set_cons_zero, List.set_cons_succ]
  refine' Dp.wpAnyL_take 5 rfl (by kernel_rfl) (fun _ _ _ h => h) (by rfl) ?hy5 hS0 ?rest5
  case hy5 => intro wx hSx; go_simp; try with_reducible rfl
  simp only [Act.put, List.getElem_toArray, List.getElem_cons_zero, List.getElem_cons_succ, List.setIfInBounds_toArray, List.set_cons_zero, List.set_cons_succ]
  refine' Dp.wpAnyL_take 6 rfl (by kernel_rfl) (fun _ _ _ h => h) (by rfl) ?hy6 hS0 ?rest6
  case hy6 => intro wx hSx; go_simp; try with_reducible rfl
  simp only [Act.put, List.getElem_toArray, List.getElem_cons_zero, List.getElem_cons_succ, List.setIfInBounds_toArray, List.set_cons_zero, List.set_cons_succ]
  refine' Dp.wpAnyL_take 7 rfl (by kernel_rfl) (fun _ _ _ h => h) (by rfl) ?hy7 hS0 ?rest7
  case hy7 => intro wx hSx; go_simp; try with_reducible rfl
  simp only [Act.put, List.getElem_toArray, List.getElem_cons_zero, List.getElem_cons_succ, List.setIfInBounds_toArray, List.set_cons_zero, List.set_cons_succ]
  refine' Dp.wpAnyL_take 8 rfl (by kernel_rfl) (fun _ _ _ h => h) (by rfl) ?hy8 hS0 ?rest8
  case hy8 => intro wx hSx; go_simp; try with_reducible rfl
  simp only [Act.put, List.getElem_toArray, List.getElem_cons_zero, List.getElem_cons_succ, List.setIfInBounds_toArray, List.set_cons_zero, List.set_cons_succ]
  refine' Dp.wpAnyL_take 9 rfl (by kernel_rfl) (fun _ _ _ h => h) (by rfl) ?hy9 hS0 ?rest9
  case hy9 => intro wx hSx; go_simp; try with_reducible rfl
  simp only [Act.put, List.getElem_toArray, List.getElem_cons_zero, List.getElem_cons_succ, List.setIfInBounds_toArray, List.set_cons_zero, List.set_cons_succ]
  refine' Dp.wpAnyL_take 10 rfl (by kernel_rfl) (fun _ _ _ h => h) (by rfl) ?hy10 hS0 ?rest10
  case hy10 => intro wx hSx; go_simp; try with_reducible rfl
  simp only [Act.put, List.getElem_toArray, List.getElem_cons_zero, List.getElem_cons_succ, List.setIfInBounds_toArray, List.set_cons_zero, List.set_cons_succ]
  refine' Dp.wpAnyL_take 11 rfl (by kernel_rfl) (fun _ _ _ h => h) (by rfl) ?hy11 hS0 ?rest11
  case hy11 => intro wx hSx; go_simp; try with_reducible rfl
  simp only [Act.put, List.getElem_toArray, List.getElem_cons_zero, List.getElem_cons_succ, List.setIfInBounds_toArray, List.set_cons_zero, List.set_cons_succ]
  refine' Dp.wpAnyL_take 12 rfl (by kernel_rfl) (fun _ _ _ h => h) (by rfl) ?hy12 hS0 ?rest12
  case hy12 => intro wx hSx; go_simp; try with_reducible rfl
  simp only [Act.put, List.getElem_toArray, List.getElem_cons_zero, List.getElem_cons_succ, List.setIfInBounds_toArray, List.set_cons_zero, List.set_cons_succ]
  refine' Dp.wpAnyL_take 13 rfl (by kernel_rfl) (fun _ _ _ h => h) (by rfl) ?hy13 hS0 ?rest13
  case hy13 => intro wx hSx; go_simp; try with_reducible rfl
  simp only [Act.put, List.getElem_toArray, List.getElem_cons_zero, List.getElem_cons_succ, List.setIfInBounds_toArray, List.set_cons_zero, List.set_cons_succ]
  refine' Dp.wpAnyL_take 14 rfl (by kernel_rfl) (fun _ _ _ h => h) (by rfl) ?hy14 hS0 ?rest14
  case hy14 => intro wx hSx; go_simp; try with_reducible rfl
  simp only [Act.put, List.getElem_toArray, List.getElem_cons_zero, List.getElem_cons_succ, List.setIfInBounds_toArray, List.set_cons_zero, List.set_cons_succ]
  refine' Dp.wpAnyL_take 15 rfl (by kernel_rfl) (fun _ _ _ h => h) (by rfl) ?hy15 hS0 ?rest15
  case hy15 => intro wx hSx; go_simp; try with_reducible rfl
  simp only [Act.put, List.getElem_toArray, List.getElem_cons_zero, List.getElem_cons_succ, List.setIfInBounds_toArray, List.set_cons_zero, List.set_cons_succ]
  refine' Dp.wpAnyL_take 16 rfl (by kernel_rfl) (fun _ _ _ h => h) (by rfl) ?hy16 hS0 ?rest16
  case hy16 => intro wx hSx; go_simp; try with_reducible rfl
  simp only [Act.put, List.getElem_toArray, List.getElem_cons_zero, List.getElem_cons_succ, List.setIfInBounds_toArray, List.set_cons_zero, List.set_cons_succ]
  refine' Dp.wpAnyL_take 17 rfl (by kernel_rfl) (fun _ _ _ h => h) (by rfl) ?hy17 hS0 ?rest17
  case hy17 => intro wx hSx; go_simp; try with_reducible rfl
  simp only [Act.put, List.getElem_toArray, List.getElem_cons_zero, List.getElem_cons_succ, List.setIfInBounds_toArray, List.set_cons_zero, List.set_cons_succ]
  refine' Dp.wpAnyL_take 18 rfl (by kernel_rfl) (fun _ _ _ h => h) (by rfl) ?hy18 hS0 ?rest18
  case hy18 => intro wx hSx; go_simp; try with_reducible rfl
  simp only [Act.put, List.getElem_toArray, List.getElem_cons_zero, List.getElem_cons_succ, List.setIfInBounds_toArray, List.set_cons_zero, List.set_cons_succ]
  refine Dp.wpAnyL_one 19 rfl (by kernel_rfl) (by rfl) (fun K hK => ?_)
  go_simp
  refine (progJump s mem i _ p _ hs hp1.drew).mono ?_
  rintro e w' ⟨rfl, hr, hk⟩
  refine hK _ _ ⟨fun h => absurd h (Nat.lt_irrefl _), ?_⟩
  clear hK K
  refine Dp.wpAnyL_one 20 rfl (by kernel_rfl) (by rfl) (fun K hK => ?_)
  go_simp
  refine hK _ _ ⟨fun h => absurd h (by decide), ?_⟩
  clear hK K
  refine Dp.wpAnyL_done (by kernel_rfl) ?_ _
  go_wp2
  go_ret
  exact ⟨rfl, hr, (Dp.Keeps.mono (T := fun k => k = p) k1.drew (fun _ _ e => e.elim)).next hk (fun _ _ e => e)⟩

set_option maxRecDepth 100000 in
set_option maxHeartbeats 1000000 in
theorem progLess (s : Dp.Cs) (mem : Value) (i : Dp.Ins) (p : Nat) (w : World) (hs : s.Ok) (hi : i.Ok) (hp : Dp.Row w p 109 (Dp.coreCells s mem)) :
    Calls Tryz.prog 124 #[.pointer (some ⟨p, 0, none⟩), .agg (Dp.pinsCells i).toArray] w fun e w' => e = .returned (.int .i64 0) ∧ Dp.Row w' p 109 (Dp.coreCells (Dp.putted s i (Dp.one (decide (Dp.signed (s.reg i.b) < Dp.signed (s.reg i.c))))) mem) ∧ Dp.Keeps (fun k => k = p) w w' := by
  go_enter Tryz.func124, Tryz.ntmps124
  go_wp2_with (refine Dp.wpList_box_row rfl 165 _ rfl (Dp.pinsCells i) rfl ?_)
  intro w1 r1 z1 k1
  have hp1 := hp.keep k1 (fun e => e)
  have q0 : ∀ wx, Dp.Keeps (fun _ => False) w1 wx → wx.cell? ⟨w.heap.size, 0, none⟩ = some (.int .u32 i.op) := fun wx kx => ((r1.keep kx (fun e => e)).pins).1
  have q1 : ∀ wx, Dp.Keeps (fun _ => False) w1 wx → wx.cell? ⟨w.heap.size, 1, none⟩ = some (.int .u32 i.a) := fun wx kx => ((r1.keep kx (fun e => e)).pins).2.1
  have q2 : ∀ wx, Dp.Keeps (fun _ => False) w1 wx → wx.cell? ⟨w.heap.size, 2, none⟩ = some (.int .u32 i.b) := fun wx kx => ((r1.keep kx (fun e => e)).pins).2.2.1
  have q3 : ∀ wx, Dp.Keeps (fun _ => False) w1 wx → wx.cell? ⟨w.heap.size, 3, none⟩ = some (.int .u32 i.c) := fun wx kx => ((r1.keep kx (fun e => e)).pins).2.2.2.1
  have q4 : ∀ wx, Dp.Keeps (fun _ => False) w1 wx → wx.cell? ⟨w.heap.size, 4, none⟩ = some (.int .u32 (Dp.wrap i.n)) := fun wx kx => ((r1.keep kx (fun e => e)).pins).2.2.2.2
  have qb : ∀ wx, Dp.Keeps (fun _ => False) w1 wx → wx.cell? ⟨p, 4 + i.b.toNat, none⟩ = some (.int .u32 (s.reg i.b)) := fun wx kx => (hp1.keep kx (fun e => e)).coreReg hs.len i.b hi.b
  have qc : ∀ wx, Dp.Keeps (fun _ => False) w1 wx → wx.cell? ⟨p, 4 + i.c.toNat, none⟩ = some (.int .u32 (s.reg i.c)) := fun wx kx => (hp1.keep kx (fun e => e)).coreReg hs.len i.c hi.c
  have hib := hi.b
  have hic := hi.c
  have hb := hs.reg i.b
  have hc := hs.reg i.c
  have hnw := Dp.wrap_word i.n
  unfold Dp.isWord at hb hc hnw
  have hS0 : Dp.Keeps (fun _ => False) w1 w1.drew := (Dp.Keeps.refl _ _).drew
  have HV : Hid (decide (IntKind.i32.wrap (s.reg i.b) < IntKind.i32.wrap (s.reg i.c)) = decide (Dp.signed (s.reg i.b) < Dp.signed (s.reg i.c))) := by
    have e1 : ∀ x : Int, 0 ≤ x ∧ x < 4294967296 → IntKind.i32.wrap x = Dp.signed x := by intro x hx; rw [IntKind.wrap_i32]; unfold Dp.signed; split <;> omega
    unfold Hid; rw [e1 _ hb, e1 _ hc]
  go_wp2
  refine Dp.wp_region_L (fun wx => Dp.Keeps (fun _ => False) w1 wx) 22 mixedP ?_
  refine' Dp.wpAnyL_take 0 rfl (by kernel_rfl) (fun _ _ _ h => h) (by rfl) ?hy0 hS0 ?rest0
  case hy0 => intro wx hSx; go_simp; try with_reducible rfl
  simp only [Act.put, List.getElem_toArray, List.getElem_cons_zero, List.setIfInBounds_toArray, List.set_cons_zero, List.set_cons_succ]
  refine' Dp.wpAnyL_take 1 rfl (by kernel_rfl) (fun _ _ _ h => h) (by rfl) ?hy1 hS0 ?rest1
  case hy1 => intro wx hSx; go_simp; try with_reducible rfl
  simp only [Act.put, List.getElem_toArray, List.getElem_cons_zero, List.getElem_cons_succ, List.setIfInBounds_toArray, List.set_cons_zero, List.set_cons_succ]
  refine' Dp.wpAnyL_take 2 rfl (by kernel_rfl) (fun _ _ _ h => h) (by rfl) ?hy2 hS0 ?rest2
  case hy2 => intro wx hSx; go_simp; try with_reducible rfl
  simp only [Act.put, List.getElem_toArray, List.getElem_cons_zero, List.getElem_cons_succ, List.setIfInBounds_toArray, List.set_cons_zero, List.set_cons_succ]
  refine' Dp.wpAnyL_take 3 rfl (by kernel_rfl) (fun _ _ _ h => h) (by rfl) ?hy3 hS0 ?rest3
  case hy3 => intro wx hSx; go_simp; try with_reducible rfl
  simp only [Act.put, List.getElem_toArray, List.getElem_cons_zero, List.getElem_cons_succ, List.setIfInBounds_toArray, List.set_cons_zero, List.set_cons_succ]
  refine' Dp.wpAnyL_take 4 rfl (by kernel_rfl) (fun _ _ _ h => h) (by rfl) ?hy4 hS0 ?rest4
  case hy4 => intro wx hSx; go_simp; try with_reducible rfl
  simp only [Act.put, List.getElem_toArray, List.getElem_cons_zero, List.getElem_cons_succ, List.setIfInBounds_toArray, List.set_cons_zero, List.set_cons_succ]
  refine' Dp.wpAnyL_take 5 rfl (by kernel_rfl) (fun _ _ _ h => h) (by rfl) ?hy5 hS0 ?rest5
  case hy5 => intro wx hSx; go_simp; try with_reducible rfl
  simp only [Act.put, List.getElem_toArray, List.getElem_cons_zero, List.getElem_cons_succ, List.setIfInBounds_toArray, List.set_cons_zero, List.set_cons_succ]
  refine' Dp.wpAnyL_take 6 rfl (by kernel_rfl) (fun _ _ _ h => h) (by rfl) ?hy6 hS0 ?rest6
  case hy6 => intro wx hSx; go_simp; try with_reducible rfl
  simp only [Act.put, List.getElem_toArray, List.getElem_cons_zero, List.getElem_cons_succ, List.setIfInBounds_toArray, List.set_cons_zero, List.set_cons_succ]
  refine' Dp.wpAnyL_take 7 rfl (by kernel_rfl) (fun _ _ _ h => h) (by rfl) ?hy7 hS0 ?rest7
  case hy7 => intro wx hSx; go_simp; try with_reducible rfl
  simp only [Act.put, List.getElem_toArray, List.getElem_cons_zero, List.getElem_cons_succ, List.setIfInBounds_toArray, List.set_cons_zero, List.set_cons_succ]
  refine' Dp.wpAnyL_take 8 rfl (by kernel_rfl) (fun _ _ _ h => h) (by rfl) ?hy8 hS0 ?rest8
  case hy8 => intro wx hSx; go_simp; try with_reducible rfl
  simp only [Act.put, List.getElem_toArray, List.getElem_cons_zero, List.getElem_cons_succ, List.setIfInBounds_toArray, List.set_cons_zero, List.set_cons_succ]
  refine' Dp.wpAnyL_take 9 rfl (by kernel_rfl) (fun _ _ _ h => h) (by rfl) ?hy9 hS0 ?rest9
  case hy9 => intro wx hSx; go_simp; try with_reducible rfl
  simp only [Act.put, List.getElem_toArray, List.getElem_cons_zero, List.getElem_cons_succ, List.setIfInBounds_toArray, List.set_cons_zero, List.set_cons_succ]
  refine' Dp.wpAnyL_take 10 rfl (by kernel_rfl) (fun _ _ _ h => h) (by rfl) ?hy10 hS0 ?rest10
  case hy10 => intro wx hSx; go_simp; try with_reducible rfl
  simp only [Act.put, List.getElem_toArray, List.getElem_cons_zero, List.getElem_cons_succ, List.setIfInBounds_toArray, List.set_cons_zero, List.set_cons_succ]
  refine' Dp.wpAnyL_take 11 rfl (by kernel_rfl) (fun _ _ _ h => h) (by rfl) ?hy11 hS0 ?rest11
  case hy11 => intro wx hSx; go_simp; try with_reducible rfl
  simp only [Act.put, List.getElem_toArray, List.getElem_cons_zero, List.getElem_cons_succ, List.setIfInBounds_toArray, List.set_cons_zero, List.set_cons_succ]
  refine' Dp.wpAnyL_take 12 rfl (by kernel_rfl) (fun _ _ _ h => h) (by rfl) ?hy12 hS0 ?rest12
  case hy12 => intro wx hSx; go_simp; try with_reducible rfl
  simp only [Act.put, List.getElem_toArray, List.getElem_cons_zero, List.getElem_cons_succ, List.setIfInBounds_toArray, List.set_cons_zero, List.set_cons_succ]
  refine' Dp.wpAnyL_take 13 rfl (by kernel_rfl) (fun _ _ _ h => h) (by rfl) ?hy13 hS0 ?rest13
  case hy13 => intro wx hSx; go_simp; try with_reducible rfl
  simp only [Act.put, List.getElem_toArray, List.getElem_cons_zero, List.getElem_cons_succ, List.setIfInBounds_toArray, List.set_cons_zero, List.set_cons_succ]
  refine' Dp.wpAnyL_take 14 rfl (by kernel_rfl) (fun _ _ _ h => h) (by rfl) ?hy14 hS0 ?rest14
  case hy14 => intro wx hSx; go_simp; try with_reducible rfl
  simp only [Act.put, List.getElem_toArray, List.getElem_cons_zero, List.getElem_cons_succ, List.setIfInBounds_toArray, List.set_cons_zero, List.set_cons_succ]
  refine' Dp.wpAnyL_take 15 rfl (by kernel_rfl) (fun _ _ _ h => h) (by rfl) ?hy15 hS0 ?rest15
  case hy15 => intro wx hSx; go_simp; try with_reducible rfl
  simp only [Act.put, List.getElem_toArray, List.getElem_cons_zero, List.getElem_cons_succ, List.setIfInBounds_toArray, List.set_cons_zero, List.set_cons_succ]
  refine' Dp.wpAnyL_take 16 rfl (by kernel_rfl) (fun _ _ _ h => h) (by rfl) ?hy16 hS0 ?rest16
  case hy16 => intro wx hSx; go_simp; try with_reducible rfl
  simp only [Act.put, List.getElem_toArray, List.getElem_cons_zero, List.getElem_cons_succ, List.setIfInBounds_toArray, List.set_cons_zero, List.set_cons_succ]
  refine' Dp.wpAnyL_take 17 rfl (by kernel_rfl) (fun _ _ _ h => h) (by rfl) ?hy17 hS0 ?rest17
  case hy17 => intro wx hSx; go_simp; try with_reducible rfl
  simp only [Act.put, List.getElem_toArray, List.getElem_cons_zero, List.getElem_cons_succ, List.setIfInBounds_toArray, List.set_cons_zero, List.set_cons_succ]
  refine' Dp.wpAnyL_take 18 rfl (by kernel_rfl) (fun _ _ _ h => h) (by rfl) ?hy18 hS0 ?rest18
  case hy18 => intro wx hSx; go_simp; try with_reducible rfl
  simp only [Act.put, List.getElem_toArray, List.getElem_cons_zero, List.getElem_cons_succ, List.setIfInBounds_toArray, List.set_cons_zero, List.set_cons_succ]
  refine' Dp.wpAnyL_take 19 rfl (by kernel_rfl) (fun _ _ _ h => h) (by rfl) ?hy19 hS0 ?rest19
  case hy19 => intro wx hSx; go_simp; try with_reducible rfl
  simp only [Act.put, List.getElem_toArray, List.getElem_cons_zero, List.getElem_cons_succ, List.setIfInBounds_toArray, List.set_cons_zero, List.set_cons_succ]
  refine' Dp.wpAnyL_take 20 rfl (by kernel_rfl) (fun _ _ _ h => h) (by rfl) ?hy20 hS0 ?rest20
  case hy20 => intro wx hSx; go_simp; try with_reducible rfl
  simp only [Act.put, List.getElem_toArray, List.getElem_cons_zero, List.getElem_cons_succ, List.setIfInBounds_toArray, List.set_cons_zero, List.set_cons_succ]
  refine Dp.wpAnyL_one 21 rfl (by kernel_rfl) (by rfl) (fun K hK => ?_)
  go_simp
  refine (progOne _ _).mono ?_
  rintro e w' ⟨rfl, rfl⟩
  refine hK _ _ ⟨fun _ => hS0, ?_⟩
  clear hK K
  refine Dp.wpAnyL_one 22 rfl (by kernel_rfl) (by rfl) (fun K hK => ?_)
  go_simp
  refine (progPut s mem i _ p _ hs hi hp1.drew).mono ?_
  rintro e w' ⟨rfl, hr, hk⟩
  refine hK _ _ ⟨fun h => absurd h (Nat.lt_irrefl _), ?_⟩
  clear hK K
  refine Dp.wpAnyL_one 23 rfl (by kernel_rfl) (by rfl) (fun K hK => ?_)
  go_simp
  refine hK _ _ ⟨fun h => absurd h (by decide), ?_⟩
  clear hK K
  refine Dp.wpAnyL_done (by kernel_rfl) ?_ _
  rw [HV.out] at hr
  go_wp2
  go_ret
  exact ⟨rfl, hr, (Dp.Keeps.mono (T := fun k => k = p) k1.drew (fun _ _ e => e.elim)).next hk (fun _ _ e => e)⟩

set_option maxRecDepth 100000 in
set_option maxHeartbeats 1000000 in
theorem progDiv (s : Dp.Cs) (mem : Value) (i : Dp.Ins) (p : Nat) (w : World) (hs : s.Ok) (hi : i.Ok) (hp : Dp.Row w p 109 (Dp.coreCells s mem)) (hz : s.reg i.c ≠ 0) :
    Calls Tryz.prog 125 #[.pointer (some ⟨p, 0, none⟩), .agg (Dp.pinsCells i).toArray] w fun e w' => e = .returned (.int .i64 0) ∧ Dp.Row w' p 109 (Dp.coreCells (Dp.putted s i (s.reg i.b / s.reg i.c)) mem) ∧ Dp.Keeps (fun k => k = p) w w' := by
  go_enter Tryz.func125, Tryz.ntmps125
  go_wp2_with (refine Dp.wpList_box_row rfl 165 _ rfl (Dp.pinsCells i) rfl ?_)
  intro w1 r1 z1 k1
  have hp1 := hp.keep k1 (fun e => e)
  have q0 : ∀ wx, Dp.Keeps (fun _ => False) w1 wx → wx.cell? ⟨w.heap.size, 0, none⟩ = some (.int .u32 i.op) := fun wx kx => ((r1.keep kx (fun e => e)).pins).1
  have q1 : ∀ wx, Dp.Keeps (fun _ => False) w1 wx → wx.cell? ⟨w.heap.size, 1, none⟩ = some (.int .u32 i.a) := fun wx kx => ((r1.keep kx (fun e => e)).pins).2.1
  have q2 : ∀ wx, Dp.Keeps (fun _ => False) w1 wx → wx.cell? ⟨w.heap.size, 2, none⟩ = some (.int .u32 i.b) := fun wx kx => ((r1.keep kx (fun e => e)).pins).2.2.1
  have q3 : ∀ wx, Dp.Keeps (fun _ => False) w1 wx → wx.cell? ⟨w.heap.size, 3, none⟩ = some (.int .u32 i.c) := fun wx kx => ((r1.keep kx (fun e => e)).pins).2.2.2.1
  have q4 : ∀ wx, Dp.Keeps (fun _ => False) w1 wx → wx.cell? ⟨w.heap.size, 4, none⟩ = some (.int .u32 (Dp.wrap i.n)) := fun wx kx => ((r1.keep kx (fun e => e)).pins).2.2.2.2
  have qb : ∀ wx, Dp.Keeps (fun _ => False) w1 wx → wx.cell? ⟨p, 4 + i.b.toNat, none⟩ = some (.int .u32 (s.reg i.b)) := fun wx kx => (hp1.keep kx (fun e => e)).coreReg hs.len i.b hi.b
  have qc : ∀ wx, Dp.Keeps (fun _ => False) w1 wx → wx.cell? ⟨p, 4 + i.c.toNat, none⟩ = some (.int .u32 (s.reg i.c)) := fun wx kx => (hp1.keep kx (fun e => e)).coreReg hs.len i.c hi.c
  have hib := hi.b
  have hic := hi.c
  have hb := hs.reg i.b
  have hc := hs.reg i.c
  have hnw := Dp.wrap_word i.n
  unfold Dp.isWord at hb hc hnw
  have hS0 : Dp.Keeps (fun _ => False) w1 w1.drew.drew := (Dp.Keeps.refl _ _).drew.drew
  obtain ⟨_, _, _, j3, _⟩ := r1.pins
  have jc := hp1.coreReg hs.len i.c hi.c
  have HV : Hid (IntKind.u32.wrap ((s.reg i.b).tdiv (s.reg i.c)) = s.reg i.b / s.reg i.c) := by
    unfold Hid
    rw [Int.tdiv_eq_ediv_of_nonneg hb.1]
    have h1 := Int.ediv_nonneg hb.1 hc.1
    have h2 := Int.ediv_le_self (s.reg i.c) hb.1
    exact IntWalk.u32_in _ (by omega)
  go_wp2
  go_region
  go_wp2
  clear j3 jc
  refine Dp.wp_region_L (fun wx => Dp.Keeps (fun _ => False) w1 wx) 19 mixedP ?_
  refine' Dp.wpAnyL_take 0 rfl (by kernel_rfl) (fun _ _ _ h => h) (by rfl) ?hy0 hS0 ?rest0
  case hy0 => intro wx hSx; go_simp; try with_reducible rfl
  simp only [Act.put, List.getElem_toArray, List.getElem_cons_zero, List.setIfInBounds_toArray, List.set_cons_zero, List.set_cons_succ]
  refine' Dp.wpAnyL_take 1 rfl (by kernel_rfl) (fun _ _ _ h => h) (by rfl) ?hy1 hS0 ?rest1
  case hy1 => intro wx hSx; go_simp; try with_reducible rfl
  simp only [Act.put, List.getElem_toArray, List.getElem_cons_zero, List.getElem_cons_succ, List.setIfInBounds_toArray, List.set_cons_zero, List.set_cons_succ]
  refine' Dp.wpAnyL_take 2 rfl (by kernel_rfl) (fun _ _ _ h => h) (by rfl) ?hy2 hS0 ?rest2
  case hy2 => intro wx hSx; go_simp; try with_reducible rfl
  simp only [Act.put, List.getElem_toArray, List.getElem_cons_zero, List.getElem_cons_succ, List.setIfInBounds_toArray, List.set_cons_zero, List.set_cons_succ]
  refine' Dp.wpAnyL_take 3 rfl (by kernel_rfl) (fun _ _ _ h => h) (by rfl) ?hy3 hS0 ?rest3
  case hy3 => intro wx hSx; go_simp; try with_reducible rfl
  simp only [Act.put, List.getElem_toArray, List.getElem_cons_zero, List.getElem_cons_succ, List.setIfInBounds_toArray, List.set_cons_zero, List.set_cons_succ]
  refine' Dp.wpAnyL_take 4 rfl (by kernel_rfl) (fun _ _ _ h => h) (by rfl) ?hy4 hS0 ?rest4
  case hy4 => intro wx hSx; go_simp; try with_reducible rfl
  simp only [Act.put, List.getElem_toArray, List.getElem_cons_zero, List.getElem_cons_succ, List.setIfInBounds_toArray, List.set_cons_zero, List.set_cons_succ]
  refine' Dp.wpAnyL_take 5 rfl (by kernel_rfl) (fun _ _ _ h => h) (by rfl) ?hy5 hS0 ?rest5
  case hy5 => intro wx hSx; go_simp; try with_reducible rfl
  simp only [Act.put, List.getElem_toArray, List.getElem_cons_zero, List.getElem_cons_succ, List.setIfInBounds_toArray, List.set_cons_zero, List.set_cons_succ]
  refine' Dp.wpAnyL_take 6 rfl (by kernel_rfl) (fun _ _ _ h => h) (by rfl) ?hy6 hS0 ?rest6
  case hy6 => intro wx hSx; go_simp; try with_reducible rfl
  simp only [Act.put, List.getElem_toArray, List.getElem_cons_zero, List.getElem_cons_succ, List.setIfInBounds_toArray, List.set_cons_zero, List.set_cons_succ]
  refine' Dp.wpAnyL_take 7 rfl (by kernel_rfl) (fun _ _ _ h => h) (by rfl) ?hy7 hS0 ?rest7
  case hy7 => intro wx hSx; go_simp; try with_reducible rfl
  simp only [Act.put, List.getElem_toArray, List.getElem_cons_zero, List.getElem_cons_succ, List.setIfInBounds_toArray, List.set_cons_zero, List.set_cons_succ]
  refine' Dp.wpAnyL_take 8 rfl (by kernel_rfl) (fun _ _ _ h => h) (by rfl) ?hy8 hS0 ?rest8
  case hy8 => intro wx hSx; go_simp; try with_reducible rfl
  simp only [Act.put, List.getElem_toArray, List.getElem_cons_zero, List.getElem_cons_succ, List.setIfInBounds_toArray, List.set_cons_zero, List.set_cons_succ]
  refine' Dp.wpAnyL_take 9 rfl (by kernel_rfl) (fun _ _ _ h => h) (by rfl) ?hy9 hS0 ?rest9
  case hy9 => intro wx hSx; go_simp; try with_reducible rfl
  simp only [Act.put, List.getElem_toArray, List.getElem_cons_zero, List.getElem_cons_succ, List.setIfInBounds_toArray, List.set_cons_zero, List.set_cons_succ]
  refine' Dp.wpAnyL_take 10 rfl (by kernel_rfl) (fun _ _ _ h => h) (by rfl) ?hy10 hS0 ?rest10
  case hy10 => intro wx hSx; go_simp; try with_reducible rfl
  simp only [Act.put, List.getElem_toArray, List.getElem_cons_zero, List.getElem_cons_succ, List.setIfInBounds_toArray, List.set_cons_zero, List.set_cons_succ]
  refine' Dp.wpAnyL_take 11 rfl (by kernel_rfl) (fun _ _ _ h => h) (by rfl) ?hy11 hS0 ?rest11
  case hy11 => intro wx hSx; go_simp; try with_reducible rfl
  simp only [Act.put, List.getElem_toArray, List.getElem_cons_zero, List.getElem_cons_succ, List.setIfInBounds_toArray, List.set_cons_zero, List.set_cons_succ]
  refine' Dp.wpAnyL_take 12 rfl (by kernel_rfl) (fun _ _ _ h => h) (by rfl) ?hy12 hS0 ?rest12
  case hy12 => intro wx hSx; go_simp; try with_reducible rfl
  simp only [Act.put, List.getElem_toArray, List.getElem_cons_zero, List.getElem_cons_succ, List.setIfInBounds_toArray, List.set_cons_zero, List.set_cons_succ]
  refine' Dp.wpAnyL_take 13 rfl (by kernel_rfl) (fun _ _ _ h => h) (by rfl) ?hy13 hS0 ?rest13
  case hy13 => intro wx hSx; go_simp; try with_reducible rfl
  simp only [Act.put, List.getElem_toArray, List.getElem_cons_zero, List.getElem_cons_succ, List.setIfInBounds_toArray, List.set_cons_zero, List.set_cons_succ]
  refine' Dp.wpAnyL_take 14 rfl (by kernel_rfl) (fun _ _ _ h => h) (by rfl) ?hy14 hS0 ?rest14
  case hy14 => intro wx hSx; go_simp; try with_reducible rfl
  simp only [Act.put, List.getElem_toArray, List.getElem_cons_zero, List.getElem_cons_succ, List.setIfInBounds_toArray, List.set_cons_zero, List.set_cons_succ]
  refine' Dp.wpAnyL_take 15 rfl (by kernel_rfl) (fun _ _ _ h => h) (by rfl) ?hy15 hS0 ?rest15
  case hy15 => intro wx hSx; go_simp; try with_reducible rfl
  simp only [Act.put, List.getElem_toArray, List.getElem_cons_zero, List.getElem_cons_succ, List.setIfInBounds_toArray, List.set_cons_zero, List.set_cons_succ]
  refine' Dp.wpAnyL_take 16 rfl (by kernel_rfl) (fun _ _ _ h => h) (by rfl) ?hy16 hS0 ?rest16
  case hy16 => intro wx hSx; go_simp; try with_reducible rfl
  simp only [Act.put, List.getElem_toArray, List.getElem_cons_zero, List.getElem_cons_succ, List.setIfInBounds_toArray, List.set_cons_zero, List.set_cons_succ]
  refine' Dp.wpAnyL_take 17 rfl (by kernel_rfl) (fun _ _ _ h => h) (by rfl) ?hy17 hS0 ?rest17
  case hy17 => intro wx hSx; go_simp; try with_reducible rfl
  simp only [Act.put, List.getElem_toArray, List.getElem_cons_zero, List.getElem_cons_succ, List.setIfInBounds_toArray, List.set_cons_zero, List.set_cons_succ]
  refine' Dp.wpAnyL_take 18 rfl (by kernel_rfl) (fun _ _ _ h => h) (by rfl) ?hy18 hS0 ?rest18
  case hy18 => intro wx hSx; go_simp; try with_reducible rfl
  simp only [Act.put, List.getElem_toArray, List.getElem_cons_zero, List.getElem_cons_succ, List.setIfInBounds_toArray, List.set_cons_zero, List.set_cons_succ]
  refine Dp.wpAnyL_one 19 rfl (by kernel_rfl) (by rfl) (fun K hK => ?_)
  go_simp
  refine (progPut s mem i _ p _ hs hi hp1.drew.drew).mono ?_
  rintro e w' ⟨rfl, hr, hk⟩
  refine hK _ _ ⟨fun h => absurd h (Nat.lt_irrefl _), ?_⟩
  clear hK K
  refine Dp.wpAnyL_one 20 rfl (by kernel_rfl) (by rfl) (fun K hK => ?_)
  go_simp
  refine hK _ _ ⟨fun h => absurd h (by decide), ?_⟩
  clear hK K
  refine Dp.wpAnyL_done (by kernel_rfl) ?_ _
  go_wp2
  go_ret
  rw [HV.out] at hr
  exact ⟨rfl, hr, (Dp.Keeps.mono (T := fun k => k = p) k1.drew.drew (fun _ _ e => e.elim)).next hk (fun _ _ e => e)⟩

set_option maxRecDepth 100000 in
set_option maxHeartbeats 1000000 in
theorem progDiv0 (s : Dp.Cs) (mem : Value) (i : Dp.Ins) (p : Nat) (w : World) (hs : s.Ok) (hi : i.Ok) (hp : Dp.Row w p 109 (Dp.coreCells s mem)) (hz : s.reg i.c = 0) :
    Calls Tryz.prog 125 #[.pointer (some ⟨p, 0, none⟩), .agg (Dp.pinsCells i).toArray] w fun e w' => e = .returned (.int .i64 4) ∧ Dp.Row w' p 109 (Dp.coreCells s mem) ∧ Dp.Keeps (fun k => k = p) w w' := by
  go_enter Tryz.func125, Tryz.ntmps125
  go_wp2_with (refine Dp.wpList_box_row rfl 165 _ rfl (Dp.pinsCells i) rfl ?_)
  intro w1 r1 z1 k1
  have hp1 := hp.keep k1 (fun e => e)
  obtain ⟨_, _, _, j3, _⟩ := r1.pins
  have jc := hp1.coreReg hs.len i.c hi.c
  rw [hz] at jc
  have hic := hi.c
  go_wp2
  go_region
  go_wp2
  go_ret
  exact ⟨rfl, hp1.drew, (Dp.Keeps.mono (T := fun k => k = p) k1.drew (fun _ _ e => e.elim))⟩

end Go.Proofs.YtdipojfngdceoabGreatDoor
