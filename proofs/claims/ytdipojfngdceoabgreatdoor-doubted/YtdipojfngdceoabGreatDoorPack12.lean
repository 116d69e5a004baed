/- Steps on the way: ProgAlu. -/
import Derived.Test.YtdipojfngdceoabGreatDoorPack04
import Derived.Test.YtdipojfngdceoabGreatDoorPack69
import Derived.Test.YtdipojfngdceoabGreatDoorProg
import Derived.WalkKit
import Derived.WalkSpells
import Derived.WalkLawsBesides
/- The program's core: the instructions that put a word into a register. -/
namespace Go.Proofs.YtdipojfngdceoabGreatDoor
open Go.RowKit

theorem mixedP : Tryz.prog.follows .mixedOrders = true := by kernel_rfl

namespace Dp
theorem bits_and (x y : Int) (hx : 0 ≤ x ∧ x < 4294967296) (hy : 0 ≤ y ∧ y < 4294967296) : Go.bits .and .u32 x y = bits 4 x y ∧ Go.bits .or .u32 x y = bits 5 x y ∧ Go.bits .xor .u32 x y = bits 6 x y := by
  obtain ⟨a, rfl⟩ := Int.eq_ofNat_of_zero_le hx.1
  obtain ⟨b, rfl⟩ := Int.eq_ofNat_of_zero_le hy.1
  obtain ⟨h1, h2, h3⟩ := bits_u32_nat a b (by omega) (by omega)
  refine ⟨h1.trans ?_, h2.trans ?_, h3.trans ?_⟩ <;> simp [bits]
end Dp

set_option maxRecDepth 100000 in
set_option maxHeartbeats 1000000 in
theorem progAdd (s : Dp.Cs) (mem : Value) (i : Dp.Ins) (p : Nat) (w : World) (hs : s.Ok) (hi : i.Ok) (hp : Dp.Row w p 109 (Dp.coreCells s mem)) :
    Calls Tryz.prog 116 #[.pointer (some ⟨p, 0, none⟩), .agg (Dp.pinsCells i).toArray] w fun e w' => e = .returned (.int .i64 0) ∧ Dp.Row w' p 109 (Dp.coreCells (Dp.putted s i (Dp.wrap (s.reg i.b + s.reg i.c))) mem) ∧ Dp.Keeps (fun k => k = p) w w' := by
  go_enter Tryz.func116, Tryz.ntmps116
  go_wp2_with (refine Dp.wpList_box_row rfl 165 _ rfl (Dp.pinsCells i) rfl ?_)
  intro w1 r1 z1 k1
  have hp1 := hp.keep k1 (fun e => e)
  have q0 : ∀ wx, Dp.Keeps (fun _ => False) w1 wx → wx.cell? ⟨w.heap.size, 0, none⟩ = some (.int .u32 i.op) := fun wx kx => ((r1.keep kx (fun e => e)).pins).1
  have q1 : ∀ wx, Dp.Keeps (fun _ => False) w1 wx → wx.cell? ⟨w.heap.size, 1, none⟩ = some (.int .u32 i.a) := fun wx kx => ((r1.keep kx (fun e => e)).pins).2.1
  have q2 : ∀ wx, Dp.Keeps (fun _ => False) w1 wx → wx.cell? ⟨w.heap.size, 2, none⟩ = some (.int .u32 i.b) := fun wx kx => ((r1.keep kx (fun e => e)).pins).2.2.1
  have q3 : ∀ wx, Dp.Keeps (fun _ => False) w1 wx → wx.cell? ⟨w.heap.size, 3, none⟩ = some (.int .u32 i.c) := fun wx kx => ((r1.keep kx (fun e => e)).pins).2.2.2.1
  have q4 : ∀ wx, Dp.Keeps (fun _ => False) w1 wx → wx.cell? ⟨w.heap.size, 4, none⟩ = some (.int .u32 (Dp.wrap i.n)) := fun wx kx => ((r1.keep kx (fun e => e)).pins).2.2.2.2
  have qb : ∀ wx, Dp.Keeps (fun _ => False) w1 wx → wx.cell? ⟨p, 4 + i.b.toNat, none⟩ = some (.int .u32 (s.reg i.b)) := fun wx kx => (hp1.keep kx (fun e => e)).coreReg hs.len i.b hi.b
  have qc : ∀ wx, Dp.Keeps (fun _ => False) w1 wx → wx.cell? ⟨p, 4 + i.c.toNat, none⟩ = some (.int .u32 (s.reg i.c)) := fun wx kx => (hp1.keep kx (fun e => e)).coreReg hs.len i.c hi.c
  have hib := hi.b
  have hic := hi.c
  have hb := hs.reg i.b
  have hc := hs.reg i.c
  have hnw := Dp.wrap_word i.n
  unfold Dp.isWord at hb hc hnw
  have hS0 : Dp.Keeps (fun _ => False) w1 w1.drew := (Dp.Keeps.refl _ _).drew
  go_wp2
  refine Dp.wp_region_L (fun wx => Dp.Keeps (fun _ => False) w1 wx) 19 mixedP ?_
  refine' Dp.wpAnyL_take 0 rfl (by kernel_rfl) (fun _ _ _ h => h) (by rfl) ?hy0 hS0 ?rest0
  case hy0 => intro wx hSx; go_simp; try with_reducible rfl
  simp only [Act.put, List.getElem_toArray, List.getElem_cons_zero, List.setIfInBounds_toArray, List.set_cons_zero, List.set_cons_succ]
  refine' Dp.wpAnyL_take 1 rfl (by kernel_rfl) (fun _ _ _ h => h) (by rfl) ?hy1 hS0 ?rest1
  case hy1 => intro wx hSx; go_simp; try with_reducible rfl
  simp only [Act.put, List.getElem_toArray, List.getElem_cons_zero, List.getElem_cons_succ, List.setIfInBounds_toArray, List.set_cons_zero, List.set_cons_succ]
  refine' Dp.wpAnyL_take 2 rfl (by kernel_rfl) (fun _ _ _ h => h) (by rfl) ?hy2 hS0 ?rest2
  case hy2 => intro wx hSx; go_simp; try with_reducible rfl
  simp only [Act.put, List.getElem_toArray, List.getElem_cons_zero, List.getElem_cons_succ, List.setIfInBounds_toArray, List.set_cons_zero, List.set_cons_succ]
  refine' Dp.wpAnyL_take 3 rfl (by kernel_rfl) (fun _ _ _ h => h) (by rfl) ?hy3 hS0 ?rest3
  case hy3 => intro wx hSx; go_simp; try with_reducible rfl
  simp only [Act.put, List.getElem_toArray, List.getElem_cons_zero, List.getElem_cons_succ, List.setIfInBounds_toArray, List.set_cons_zero, List.set_cons_succ]
  refine' Dp.wpAnyL_take 4 rfl (by kernel_rfl) (fun _ _ _ h => h) (by rfl) ?hy4 hS0 ?rest4
  case hy4 => intro wx hSx; go_simp; try with_reducible rfl
  simp only [Act.put, List.getElem_toArray, List.getElem_cons_zero, List.getElem_cons_succ, List.setIfInBounds_toArray, List.set_cons_zero, List.set_cons_succ]
  refine' Dp.wpAnyL_take 5 rfl (by kernel_rfl) (fun _ _ _ h => h) (by rfl) ?hy5 hS0 ?rest5
  case hy5 => intro wx hSx; go_simp; try with_reducible rfl
  simp only [Act.put, List.getElem_toArray, List.getElem_cons_zero, List.getElem_cons_succ, List.setIfInBounds_toArray, List.set_cons_zero, List.set_cons_succ]
  refine' Dp.wpAnyL_take 6 rfl (by kernel_rfl) (fun _ _ _ h => h) (by rfl) ?hy6 hS0 ?rest6
  case hy6 => intro wx hSx; go_simp; try with_reducible rfl
  simp only [Act.put, List.getElem_toArray, List.getElem_cons_zero, List.getElem_cons_succ, List.setIfInBounds_toArray, List.set_cons_zero, List.set_cons_succ]
  refine' Dp.wpAnyL_take 7 rfl (by kernel_rfl) (fun _ _ _ h => h) (by rfl) ?hy7 hS0 ?rest7
  case hy7 => intro wx hSx; go_simp; try with_reducible rfl
  simp only [Act.put, List.getElem_toArray, List.getElem_cons_zero, List.getElem_cons_succ, List.setIfInBounds_toArray, List.set_cons_zero, List.set_cons_succ]
  refine' Dp.wpAnyL_take 8 rfl (by kernel_rfl) (fun _ _ _ h => h) (by rfl) ?hy8 hS0 ?rest8
  case hy8 => intro wx hSx; go_simp; try with_reducible rfl
  simp only [Act.put, List.getElem_toArray, List.getElem_cons_zero, List.getElem_cons_succ, List.setIfInBounds_toArray, List.set_cons_zero, List.set_cons_succ]
  refine' Dp.wpAnyL_take 9 rfl (by kernel_rfl) (fun _ _ _ h => h) (by rfl) ?hy9 hS0 ?rest9
  case hy9 => intro wx hSx; go_simp; try with_reducible rfl
  simp only [Act.put, List.getElem_toArray, List.getElem_cons_zero, List.getElem_cons_succ, List.setIfInBounds_toArray, List.set_cons_zero, List.set_cons_succ]
  refine' Dp.wpAnyL_take 10 rfl (by kernel_rfl) (fun _ _ _ h => h) (by rfl) ?hy10 hS0 ?rest10
  case hy10 => intro wx hSx; go_simp; try with_reducible rfl
  simp only [Act.put, List.getElem_toArray, List.getElem_cons_zero, List.getElem_cons_succ, List.setIfInBounds_toArray, List.set_cons_zero, List.set_cons_succ]
  refine' Dp.wpAnyL_take 11 rfl (by kernel_rfl) (fun _ _ _ h => h) (by rfl) ?hy11 hS0 ?rest11
  case hy11 => intro wx hSx; go_simp; try with_reducible rfl
  simp only [Act.put, List.getElem_toArray, List.getElem_cons_zero, List.getElem_cons_succ, List.setIfInBounds_toArray, List.set_cons_zero, List.set_cons_succ]
  refine' Dp.wpAnyL_take 12 rfl (by kernel_rfl) (fun _ _ _ h => h) (by rfl) ?hy12 hS0 ?rest12
  case hy12 => intro wx hSx; go_simp; try with_reducible rfl
  simp only [Act.put, List.getElem_toArray, List.getElem_cons_zero, List.getElem_cons_succ, List.setIfInBounds_toArray, List.set_cons_zero, List.set_cons_succ]
  refine' Dp.wpAnyL_take 13 rfl (by kernel_rfl) (fun _ _ _ h => h) (by rfl) ?hy13 hS0 ?rest13
  case hy13 => intro wx hSx; go_simp; try with_reducible rfl
  simp only [Act.put, List.getElem_toArray, List.getElem_cons_zero, List.getElem_cons_succ, List.setIfInBounds_toArray, List.set_cons_zero, List.set_cons_succ]
  refine' Dp.wpAnyL_take 14 rfl (by kernel_rfl) (fun _ _ _ h => h) (by rfl) ?hy14 hS0 ?rest14
  case hy14 => intro wx hSx; go_simp; try with_reducible rfl
  simp only [Act.put, List.getElem_toArray, List.getElem_cons_zero, List.getElem_cons_succ, List.setIfInBounds_toArray, List.set_cons_zero, List.set_cons_succ]
  refine' Dp.wpAnyL_take 15 rfl (by kernel_rfl) (fun _ _ _ h => h) (by rfl) ?hy15 hS0 ?rest15
  case hy15 => intro wx hSx; go_simp; try with_reducible rfl
  simp only [Act.put, List.getElem_toArray, List.getElem_cons_zero, List.getElem_cons_succ, List.setIfInBounds_toArray, List.set_cons_zero, List.set_cons_succ]
  refine' Dp.wpAnyL_take 16 rfl (by kernel_rfl) (fun _ _ _ h => h) (by rfl) ?hy16 hS0 ?rest16
  case hy16 => intro wx hSx; go_simp; try with_reducible rfl
  simp only [Act.put, List.getElem_toArray, List.getElem_cons_zero, List.getElem_cons_succ, List.setIfInBounds_toArray, List.set_cons_zero, List.set_cons_succ]
  refine' Dp.wpAnyL_take 17 rfl (by kernel_rfl) (fun _ _ _ h => h) (by rfl) ?hy17 hS0 ?rest17
  case hy17 => intro wx hSx; go_simp; try with_reducible rfl
  simp only [Act.put, List.getElem_toArray, List.getElem_cons_zero, List.getElem_cons_succ, List.setIfInBounds_toArray, List.set_cons_zero, List.set_cons_succ]
  refine' Dp.wpAnyL_take 18 rfl (by kernel_rfl) (fun _ _ _ h => h) (by rfl) ?hy18 hS0 ?rest18
  case hy18 => intro wx hSx; go_simp; try with_reducible rfl
  simp only [Act.put, List.getElem_toArray, List.getElem_cons_zero, List.getElem_cons_succ, List.setIfInBounds_toArray, List.set_cons_zero, List.set_cons_succ]
  refine Dp.wpAnyL_one 19 rfl (by kernel_rfl) (by rfl) (fun K hK => ?_)
  go_simp
  refine (progPut s mem i _ p _ hs hi hp1.drew).mono ?_
  rintro e w' ⟨rfl, hr, hk⟩
  refine hK _ _ ⟨fun h => absurd h (Nat.lt_irrefl _), ?_⟩
  clear hK K
  refine Dp.wpAnyL_one 20 rfl (by kernel_rfl) (by rfl) (fun K hK => ?_)
  go_simp
  refine hK _ _ ⟨fun h => absurd h (by decide), ?_⟩
  clear hK K
  refine Dp.wpAnyL_done (by kernel_rfl) ?_ _
  go_wp2
  go_ret
  exact ⟨rfl, hr, (Dp.Keeps.mono (T := fun k => k = p) k1.drew (fun _ _ e => e.elim)).next hk (fun _ _ e => e)⟩

set_option maxRecDepth 100000 in
set_option maxHeartbeats 1000000 in
theorem progSub (s : Dp.Cs) (mem : Value) (i : Dp.Ins) (p : Nat) (w : World) (hs : s.Ok) (hi : i.Ok) (hp : Dp.Row w p 109 (Dp.coreCells s mem)) :
    Calls Tryz.prog 117 #[.pointer (some ⟨p, 0, none⟩), .agg (Dp.pinsCells i).toArray] w fun e w' => e = .returned (.int .i64 0) ∧ Dp.Row w' p 109 (Dp.coreCells (Dp.putted s i (Dp.wrap (s.reg i.b - s.reg i.c))) mem) ∧ Dp.Keeps (fun k => k = p) w w' := by
  go_enter Tryz.func117, Tryz.ntmps117
  go_wp2_with (refine Dp.wpList_box_row rfl 165 _ rfl (Dp.pinsCells i) rfl ?_)
  intro w1 r1 z1 k1
  have hp1 := hp.keep k1 (fun e => e)
  have q0 : ∀ wx, Dp.Keeps (fun _ => False) w1 wx → wx.cell? ⟨w.heap.size, 0, none⟩ = some (.int .u32 i.op) := fun wx kx => ((r1.keep kx (fun e => e)).pins).1
  have q1 : ∀ wx, Dp.Keeps (fun _ => False) w1 wx → wx.cell? ⟨w.heap.size, 1, none⟩ = some (.int .u32 i.a) := fun wx kx => ((r1.keep kx (fun e => e)).pins).2.1
  have q2 : ∀ wx, Dp.Keeps (fun _ => False) w1 wx → wx.cell? ⟨w.heap.size, 2, none⟩ = some (.int .u32 i.b) := fun wx kx => ((r1.keep kx (fun e => e)).pins).2.2.1
  have q3 : ∀ wx, Dp.Keeps (fun _ => False) w1 wx → wx.cell? ⟨w.heap.size, 3, none⟩ = some (.int .u32 i.c) := fun wx kx => ((r1.keep kx (fun e => e)).pins).2.2.2.1
  have q4 : ∀ wx, Dp.Keeps (fun _ => False) w1 wx → wx.cell? ⟨w.heap.size, 4, none⟩ = some (.int .u32 (Dp.wrap i.n)) := fun wx kx => ((r1.keep kx (fun e => e)).pins).2.2.2.2
  have qb : ∀ wx, Dp.Keeps (fun _ => False) w1 wx → wx.cell? ⟨p, 4 + i.b.toNat, none⟩ = some (.int .u32 (s.reg i.b)) := fun wx kx => (hp1.keep kx (fun e => e)).coreReg hs.len i.b hi.b
  have qc : ∀ wx, Dp.Keeps (fun _ => False) w1 wx → wx.cell? ⟨p, 4 + i.c.toNat, none⟩ = some (.int .u32 (s.reg i.c)) := fun wx kx => (hp1.keep kx (fun e => e)).coreReg hs.len i.c hi.c
  have hib := hi.b
  have hic := hi.c
  have hb := hs.reg i.b
  have hc := hs.reg i.c
  have hnw := Dp.wrap_word i.n
  unfold Dp.isWord at hb hc hnw
  have hS0 : Dp.Keeps (fun _ => False) w1 w1.drew := (Dp.Keeps.refl _ _).drew
  go_wp2
  refine Dp.wp_region_L (fun wx => Dp.Keeps (fun _ => False) w1 wx) 19 mixedP ?_
  refine' Dp.wpAnyL_take 0 rfl (by kernel_rfl) (fun _ _ _ h => h) (by rfl) ?hy0 hS0 ?rest0
  case hy0 => intro wx hSx; go_simp; try with_reducible rfl
  simp only [Act.put, List.getElem_toArray, List.getElem_cons_zero, List.setIfInBounds_toArray, List.set_cons_zero, List.set_cons_succ]
  refine' Dp.wpAnyL_take 1 rfl (by kernel_rfl) (fun _ _ _ h => h) (by rfl) ?hy1 hS0 ?rest1
  case hy1 => intro wx hSx; go_simp; try with_reducible rfl
  simp only [Act.put, List.getElem_toArray, List.getElem_cons_zero, List.getElem_cons_succ, List.setIfInBounds_toArray, List.set_cons_zero, List.set_cons_succ]
  refine' Dp.wpAnyL_take 2 rfl (by kernel_rfl) (fun _ _ _ h => h) (by rfl) ?hy2 hS0 ?rest2
  case hy2 => intro wx hSx; go_simp; try with_reducible rfl
  simp only [Act.put, List.getElem_toArray, List.getElem_cons_zero, List.getElem_cons_succ, List.setIfInBounds_toArray, List.set_cons_zero, List.set_cons_succ]
  refine' Dp.wpAnyL_take 3 rfl (by kernel_rfl) (fun _ _ _ h => h) (by rfl) ?hy3 hS0 ?rest3
  case hy3 => intro wx hSx; go_simp; try with_reducible rfl
  simp only [Act.put, List.getElem_toArray, List.getElem_cons_zero, List.getElem_cons_succ, List.setIfInBounds_toArray, List.set_cons_zero, List.set_cons_succ]
  refine' Dp.wpAnyL_take 4 rfl (by kernel_rfl) (fun _ _ _ h => h) (by rfl) ?hy4 hS0 ?rest4
  case hy4 => intro wx hSx; go_simp; try with_reducible rfl
  simp only [Act.put, List.getElem_toArray, List.getElem_cons_zero, List.getElem_cons_succ, List.setIfInBounds_toArray, List.set_cons_zero, List.set_cons_succ]
  refine' Dp.wpAnyL_take 5 rfl (by kernel_rfl) (fun _ _ _ h => h) (by rfl) ?hy5 hS0 ?rest5
  case hy5 => intro wx hSx; go_simp; try with_reducible rfl
  simp only [Act.put, List.getElem_toArray, List.getElem_cons_zero, List.getElem_cons_succ, List.setIfInBounds_toArray, List.set_cons_zero, List.set_cons_succ]
  refine' Dp.wpAnyL_take 6 rfl (by kernel_rfl) (fun _ _ _ h => h) (by rfl) ?hy6 hS0 ?rest6
  case hy6 => intro wx hSx; go_simp; try with_reducible rfl
  simp only [Act.put, List.getElem_toArray, List.getElem_cons_zero, List.getElem_cons_succ, List.setIfInBounds_toArray, List.set_cons_zero, List.set_cons_succ]
  refine' Dp.wpAnyL_take 7 rfl (by kernel_rfl) (fun _ _ _ h => h) (by rfl) ?hy7 hS0 ?rest7
  case hy7 => intro wx hSx; go_simp; try with_reducible rfl
  simp only [Act.put, List.getElem_toArray, List.getElem_cons_zero, List.getElem_cons_succ, List.setIfInBounds_toArray, List.set_cons_zero, List.set_cons_succ]
  refine' Dp.wpAnyL_take 8 rfl (by kernel_rfl) (fun _ _ _ h => h) (by rfl) ?hy8 hS0 ?rest8
  case hy8 => intro wx hSx; go_simp; try with_reducible rfl
  simp only [Act.put, List.getElem_toArray, List.getElem_cons_zero, List.getElem_cons_succ, List.setIfInBounds_toArray, List.set_cons_zero, List.set_cons_succ]
  refine' Dp.wpAnyL_take 9 rfl (by kernel_rfl) (fun _ _ _ h => h) (by rfl) ?hy9 hS0 ?rest9
  case hy9 => intro wx hSx; go_simp; try with_reducible rfl
  simp only [Act.put, List.getElem_toArray, List.getElem_cons_zero, List.getElem_cons_succ, List.setIfInBounds_toArray, List.set_cons_zero, List.set_cons_succ]
  refine' Dp.wpAnyL_take 10 rfl (by kernel_rfl) (fun _ _ _ h => h) (by rfl) ?hy10 hS0 ?rest10
  case hy10 => intro wx hSx; go_simp; try with_reducible rfl
  simp only [Act.put, List.getElem_toArray, List.getElem_cons_zero, List.getElem_cons_succ, List.setIfInBounds_toArray, List.set_cons_zero, List.set_cons_succ]
  refine' Dp.wpAnyL_take 11 rfl (by kernel_rfl) (fun _ _ _ h => h) (by rfl) ?hy11 hS0 ?rest11
  case hy11 => intro wx hSx; go_simp; try with_reducible rfl
  simp only [Act.put, List.getElem_toArray, List.getElem_cons_zero, List.getElem_cons_succ, List.setIfInBounds_toArray, List.set_cons_zero, List.set_cons_succ]
  refine' Dp.wpAnyL_take 12 rfl (by kernel_rfl) (fun _ _ _ h => h) (by rfl) ?hy12 hS0 ?rest12
  case hy12 => intro wx hSx; go_simp; try with_reducible rfl
  simp only [Act.put, List.getElem_toArray, List.getElem_cons_zero, List.getElem_cons_succ, List.setIfInBounds_toArray, List.set_cons_zero, List.set_cons_succ]
  refine' Dp.wpAnyL_take 13 rfl (by kernel_rfl) (fun _ _ _ h => h) (by rfl) ?hy13 hS0 ?rest13
  case hy13 => intro wx hSx; go_simp; try with_reducible rfl
  simp only [Act.put, List.getElem_toArray, List.getElem_cons_zero, List.getElem_cons_succ, List.setIfInBounds_toArray, List.set_cons_zero, List.set_cons_succ]
  refine' Dp.wpAnyL_take 14 rfl (by kernel_rfl) (fun _ _ _ h => h) (by rfl) ?hy14 hS0 ?rest14
  case hy14 => intro wx hSx; go_simp; try with_reducible rfl
  simp only [Act.put, List.getElem_toArray, List.getElem_cons_zero, List.getElem_cons_succ, List.setIfInBounds_toArray, List.set_cons_zero, List.set_cons_succ]
  refine' Dp.wpAnyL_take 15 rfl (by kernel_rfl) (fun _ _ _ h => h) (by rfl) ?hy15 hS0 ?rest15
  case hy15 => intro wx hSx; go_simp; try with_reducible rfl
  simp only [Act.put, List.getElem_toArray, List.getElem_cons_zero, List.getElem_cons_succ, List.setIfInBounds_toArray, List.set_cons_zero, List.set_cons_succ]
  refine' Dp.wpAnyL_take 16 rfl (by kernel_rfl) (fun _ _ _ h => h) (by rfl) ?hy16 hS0 ?rest16
  case hy16 => intro wx hSx; go_simp; try with_reducible rfl
  simp only [Act.put, List.getElem_toArray, List.getElem_cons_zero, List.getElem_cons_succ, List.setIfInBounds_toArray, List.set_cons_zero, List.set_cons_succ]
  refine' Dp.wpAnyL_take 17 rfl (by kernel_rfl) (fun _ _ _ h => h) (by rfl) ?hy17 hS0 ?rest17
  case hy17 => intro wx hSx; go_simp; try with_reducible rfl
  simp only [Act.put, List.getElem_toArray, List.getElem_cons_zero, List.getElem_cons_succ, List.setIfInBounds_toArray, List.set_cons_zero, List.set_cons_succ]
  refine' Dp.wpAnyL_take 18 rfl (by kernel_rfl) (fun _ _ _ h => h) (by rfl) ?hy18 hS0 ?rest18
  case hy18 => intro wx hSx; go_simp; try with_reducible rfl
  simp only [Act.put, List.getElem_toArray, List.getElem_cons_zero, List.getElem_cons_succ, List.setIfInBounds_toArray, List.set_cons_zero, List.set_cons_succ]
  refine Dp.wpAnyL_one 19 rfl (by kernel_rfl) (by rfl) (fun K hK => ?_)
  go_simp
  refine (progPut s mem i _ p _ hs hi hp1.drew).mono ?_
  rintro e w' ⟨rfl, hr, hk⟩
  refine hK _ _ ⟨fun h => absurd h (Nat.lt_irrefl _), ?_⟩
  clear hK K
  refine Dp.wpAnyL_one 20 rfl (by kernel_rfl) (by rfl) (fun K hK => ?_)
  go_simp
  refine hK _ _ ⟨fun h => absurd h (by decide), ?_⟩
  clear hK K
  refine Dp.wpAnyL_done (by kernel_rfl) ?_ _
  go_wp2
  go_ret
  exact ⟨rfl, hr, (Dp.Keeps.mono (T := fun k => k = p) k1.drew (fun _ _ e => e.elim)).next hk (fun _ _ e => e)⟩

set_option maxRecDepth 100000 in
set_option maxHeartbeats 1000000 in
theorem progMul (s : Dp.Cs) (mem : Value) (i : Dp.Ins) (p : Nat) (w : World) (hs : s.Ok) (hi : i.Ok) (hp : Dp.Row w p 109 (Dp.coreCells s mem)) :
    Calls Tryz.prog 118 #[.pointer (some ⟨p, 0, none⟩), .agg (Dp.pinsCells i).toArray] w fun e w' => e = .returned (.int .i64 0) ∧ Dp.Row w' p 109 (Dp.coreCells (Dp.putted s i (Dp.wrap (s.reg i.b * s.reg i.c))) mem) ∧ Dp.Keeps (fun k => k = p) w w' := by
  go_enter Tryz.func118, Tryz.ntmps118
  go_wp2_with (refine Dp.wpList_box_row rfl 165 _ rfl (Dp.pinsCells i) rfl ?_)
  intro w1 r1 z1 k1
  have hp1 := hp.keep k1 (fun e => e)
  have q0 : ∀ wx, Dp.Keeps (fun _ => False) w1 wx → wx.cell? ⟨w.heap.size, 0, none⟩ = some (.int .u32 i.op) := fun wx kx => ((r1.keep kx (fun e => e)).pins).1
  have q1 : ∀ wx, Dp.Keeps (fun _ => False) w1 wx → wx.cell? ⟨w.heap.size, 1, none⟩ = some (.int .u32 i.a) := fun wx kx => ((r1.keep kx (fun e => e)).pins).2.1
  have q2 : ∀ wx, Dp.Keeps (fun _ => False) w1 wx → wx.cell? ⟨w.heap.size, 2, none⟩ = some (.int .u32 i.b) := fun wx kx => ((r1.keep kx (fun e => e)).pins).2.2.1
  have q3 : ∀ wx, Dp.Keeps (fun _ => False) w1 wx → wx.cell? ⟨w.heap.size, 3, none⟩ = some (.int .u32 i.c) := fun wx kx => ((r1.keep kx (fun e => e)).pins).2.2.2.1
  have q4 : ∀ wx, Dp.Keeps (fun _ => False) w1 wx → wx.cell? ⟨w.heap.size, 4, none⟩ = some (.int .u32 (Dp.wrap i.n)) := fun wx kx => ((r1.keep kx (fun e => e)).pins).2.2.2.2
  have qb : ∀ wx, Dp.Keeps (fun _ => False) w1 wx → wx.cell? ⟨p, 4 + i.b.toNat, none⟩ = some (.int .u32 (s.reg i.b)) := fun wx kx => (hp1.keep kx (fun e => e)).coreReg hs.len i.b hi.b
  have qc : ∀ wx, Dp.Keeps (fun _ => False) w1 wx → wx.cell? ⟨p, 4 + i.c.toNat, none⟩ = some (.int .u32 (s.reg i.c)) := fun wx kx => (hp1.keep kx (fun e => e)).coreReg hs.len i.c hi.c
  have hib := hi.b
  have hic := hi.c
  have hb := hs.reg i.b
  have hc := hs.reg i.c
  have hnw := Dp.wrap_word i.n
  unfold Dp.isWord at hb hc hnw
  have hS0 : Dp.Keeps (fun _ => False) w1 w1.drew := (Dp.Keeps.refl _ _).drew
  go_wp2
  refine Dp.wp_region_L (fun wx => Dp.Keeps (fun _ => False) w1 wx) 19 mixedP ?_
  refine' Dp.wpAnyL_take 0 rfl (by kernel_rfl) (fun _ _ _ h => h) (by rfl) ?hy0 hS0 ?rest0
  case hy0 => intro wx hSx; go_simp; try with_reducible rfl
  simp only [Act.put, List.getElem_toArray, List.getElem_cons_zero, List.setIfInBounds_toArray, List.set_cons_zero, List.set_cons_succ]
  refine' Dp.wpAnyL_take 1 rfl (by kernel_rfl) (fun _ _ _ h => h) (by rfl) ?hy1 hS0 ?rest1
  case hy1 => intro wx hSx; go_simp; try with_reducible rfl
  simp only [Act.put, List.getElem_toArray, List.getElem_cons_zero, List.getElem_cons_succ, List.setIfInBounds_toArray, List.set_cons_zero, List.set_cons_succ]
  refine' Dp.wpAnyL_take 2 rfl (by kernel_rfl) (fun _ _ _ h => h) (by rfl) ?hy2 hS0 ?rest2
  case hy2 => intro wx hSx; go_simp; try with_reducible rfl
  simp only [Act.put, List.getElem_toArray, List.getElem_cons_zero, List.getElem_cons_succ, List.setIfInBounds_toArray, List.set_cons_zero, List.set_cons_succ]
  refine' Dp.wpAnyL_take 3 rfl (by kernel_rfl) (fun _ _ _ h => h) (by rfl) ?hy3 hS0 ?rest3
  case hy3 => intro wx hSx; go_simp; try with_reducible rfl
  simp only [Act.put, List.getElem_toArray, List.getElem_cons_zero, List.getElem_cons_succ, List.setIfInBounds_toArray, List.set_cons_zero, List.set_cons_succ]
  refine' Dp.wpAnyL_take 4 rfl (by kernel_rfl) (fun _ _ _ h => h) (by rfl) ?hy4 hS0 ?rest4
  case hy4 => intro wx hSx; go_simp; try with_reducible rfl
  simp only [Act.put, List.getElem_toArray, List.getElem_cons_zero, List.getElem_cons_succ, List.setIfInBounds_toArray, List.set_cons_zero, List.set_cons_succ]
  refine' Dp.wpAnyL_take 5 rfl (by kernel_rfl) (fun _ _ _ h => h) (by rfl) ?hy5 hS0 ?rest5
  case hy5 => intro wx hSx; go_simp; try with_reducible rfl
  simp only [Act.put, List.getElem_toArray, List.getElem_cons_zero, List.getElem_cons_succ, List.setIfInBounds_toArray, List.set_cons_zero, List.set_cons_succ]
  refine' Dp.wpAnyL_take 6 rfl (by kernel_rfl) (fun _ _ _ h => h) (by rfl) ?hy6 hS0 ?rest6
  case hy6 => intro wx hSx; go_simp; try with_reducible rfl
  simp only [Act.put, List.getElem_toArray, List.getElem_cons_zero, List.getElem_cons_succ, List.setIfInBounds_toArray, List.set_cons_zero, List.set_cons_succ]
  refine' Dp.wpAnyL_take 7 rfl (by kernel_rfl) (fun _ _ _ h => h) (by rfl) ?hy7 hS0 ?rest7
  case hy7 => intro wx hSx; go_simp; try with_reducible rfl
  simp only [Act.put, List.getElem_toArray, List.getElem_cons_zero, List.getElem_cons_succ, List.setIfInBounds_toArray, List.set_cons_zero, List.set_cons_succ]
  refine' Dp.wpAnyL_take 8 rfl (by kernel_rfl) (fun _ _ _ h => h) (by rfl) ?hy8 hS0 ?rest8
  case hy8 => intro wx hSx; go_simp; try with_reducible rfl
  simp only [Act.put, List.getElem_toArray, List.getElem_cons_zero, List.getElem_cons_succ, List.setIfInBounds_toArray, List.set_cons_zero, List.set_cons_succ]
  refine' Dp.wpAnyL_take 9 rfl (by kernel_rfl) (fun _ _ _ h => h) (by rfl) ?hy9 hS0 ?rest9
  case hy9 => intro wx hSx; go_simp; try with_reducible rfl
  simp only [Act.put, List.getElem_toArray, List.getElem_cons_zero, List.getElem_cons_succ, List.setIfInBounds_toArray, List.set_cons_zero, List.set_cons_succ]
  refine' Dp.wpAnyL_take 10 rfl (by kernel_rfl) (fun _ _ _ h => h) (by rfl) ?hy10 hS0 ?rest10
  case hy10 => intro wx hSx; go_simp; try with_reducible rfl
  simp only [Act.put, List.getElem_toArray, List.getElem_cons_zero, List.getElem_cons_succ, List.setIfInBounds_toArray, List.set_cons_zero, List.set_cons_succ]
  refine' Dp.wpAnyL_take 11 rfl (by kernel_rfl) (fun _ _ _ h => h) (by rfl) ?hy11 hS0 ?rest11
  case hy11 => intro wx hSx; go_simp; try with_reducible rfl
  simp only [Act.put, List.getElem_toArray, List.getElem_cons_zero, List.getElem_cons_succ, List.setIfInBounds_toArray, List.set_cons_zero, List.set_cons_succ]
  refine' Dp.wpAnyL_take 12 rfl (by kernel_rfl) (fun _ _ _ h => h) (by rfl) ?hy12 hS0 ?rest12
  case hy12 => intro wx hSx; go_simp; try with_reducible rfl
  simp only [Act.put, List.getElem_toArray, List.getElem_cons_zero, List.getElem_cons_succ, List.setIfInBounds_toArray, List.set_cons_zero, List.set_cons_succ]
  refine' Dp.wpAnyL_take 13 rfl (by kernel_rfl) (fun _ _ _ h => h) (by rfl) ?hy13 hS0 ?rest13
  case hy13 => intro wx hSx; go_simp; try with_reducible rfl
  simp only [Act.put, List.getElem_toArray, List.getElem_cons_zero, List.getElem_cons_succ, List.setIfInBounds_toArray, List.set_cons_zero, List.set_cons_succ]
  refine' Dp.wpAnyL_take 14 rfl (by kernel_rfl) (fun _ _ _ h => h) (by rfl) ?hy14 hS0 ?rest14
  case hy14 => intro wx hSx; go_simp; try with_reducible rfl
  simp only [Act.put, List.getElem_toArray, List.getElem_cons_zero, List.getElem_cons_succ, List.setIfInBounds_toArray, List.set_cons_zero, List.set_cons_succ]
  refine' Dp.wpAnyL_take 15 rfl (by kernel_rfl) (fun _ _ _ h => h) (by rfl) ?hy15 hS0 ?rest15
  case hy15 => intro wx hSx; go_simp; try with_reducible rfl
  simp only [Act.put, List.getElem_toArray, List.getElem_cons_zero, List.getElem_cons_succ, List.setIfInBounds_toArray, List.set_cons_zero, List.set_cons_succ]
  refine' Dp.wpAnyL_take 16 rfl (by kernel_rfl) (fun _ _ _ h => h) (by rfl) ?hy16 hS0 ?rest16
  case hy16 => intro wx hSx; go_simp; try with_reducible rfl
  simp only [Act.put, List.getElem_toArray, List.getElem_cons_zero, List.getElem_cons_succ, List.setIfInBounds_toArray, List.set_cons_zero, List.set_cons_succ]
  refine' Dp.wpAnyL_take 17 rfl (by kernel_rfl) (fun _ _ _ h => h) (by rfl) ?hy17 hS0 ?rest17
  case hy17 => intro wx hSx; go_simp; try with_reducible rfl
  simp only [Act.put, List.getElem_toArray, List.getElem_cons_zero, List.getElem_cons_succ, List.setIfInBounds_toArray, List.set_cons_zero, List.set_cons_succ]
  refine' Dp.wpAnyL_take 18 rfl (by kernel_rfl) (fun _ _ _ h => h) (by rfl) ?hy18 hS0 ?rest18
  case hy18 => intro wx hSx; go_simp; try with_reducible rfl
  simp only [Act.put, List.getElem_toArray, List.getElem_cons_zero, List.getElem_cons_succ, List.setIfInBounds_toArray, List.set_cons_zero, List.set_cons_succ]
  refine Dp.wpAnyL_one 19 rfl (by kernel_rfl) (by rfl) (fun K hK => ?_)
  go_simp
  refine (progPut s mem i _ p _ hs hi hp1.drew).mono ?_
  rintro e w' ⟨rfl, hr, hk⟩
  refine hK _ _ ⟨fun h => absurd h (Nat.lt_irrefl _), ?_⟩
  clear hK K
  refine Dp.wpAnyL_one 20 rfl (by kernel_rfl) (by rfl) (fun K hK => ?_)
  go_simp
  refine hK _ _ ⟨fun h => absurd h (by decide), ?_⟩
  clear hK K
  refine Dp.wpAnyL_done (by kernel_rfl) ?_ _
  go_wp2
  go_ret
  exact ⟨rfl, hr, (Dp.Keeps.mono (T := fun k => k = p) k1.drew (fun _ _ e => e.elim)).next hk (fun _ _ e => e)⟩

set_option maxRecDepth 100000 in
set_option maxHeartbeats 1000000 in
theorem progAnd (s : Dp.Cs) (mem : Value) (i : Dp.Ins) (p : Nat) (w : World) (hs : s.Ok) (hi : i.Ok) (hp : Dp.Row w p 109 (Dp.coreCells s mem)) :
    Calls Tryz.prog 119 #[.pointer (some ⟨p, 0, none⟩), .agg (Dp.pinsCells i).toArray] w fun e w' => e = .returned (.int .i64 0) ∧ Dp.Row w' p 109 (Dp.coreCells (Dp.putted s i (Dp.bits 4 (s.reg i.b) (s.reg i.c))) mem) ∧ Dp.Keeps (fun k => k = p) w w' := by
  go_enter Tryz.func119, Tryz.ntmps119
  go_wp2_with (refine Dp.wpList_box_row rfl 165 _ rfl (Dp.pinsCells i) rfl ?_)
  intro w1 r1 z1 k1
  have hp1 := hp.keep k1 (fun e => e)
  have q0 : ∀ wx, Dp.Keeps (fun _ => False) w1 wx → wx.cell? ⟨w.heap.size, 0, none⟩ = some (.int .u32 i.op) := fun wx kx => ((r1.keep kx (fun e => e)).pins).1
  have q1 : ∀ wx, Dp.Keeps (fun _ => False) w1 wx → wx.cell? ⟨w.heap.size, 1, none⟩ = some (.int .u32 i.a) := fun wx kx => ((r1.keep kx (fun e => e)).pins).2.1
  have q2 : ∀ wx, Dp.Keeps (fun _ => False) w1 wx → wx.cell? ⟨w.heap.size, 2, none⟩ = some (.int .u32 i.b) := fun wx kx => ((r1.keep kx (fun e => e)).pins).2.2.1
  have q3 : ∀ wx, Dp.Keeps (fun _ => False) w1 wx → wx.cell? ⟨w.heap.size, 3, none⟩ = some (.int .u32 i.c) := fun wx kx => ((r1.keep kx (fun e => e)).pins).2.2.2.1
  have q4 : ∀ wx, Dp.Keeps (fun _ => False) w1 wx → wx.cell? ⟨w.heap.size, 4, none⟩ = some (.int .u32 (Dp.wrap i.n)) := fun wx kx => ((r1.keep kx (fun e => e)).pins).2.2.2.2
  have qb : ∀ wx, Dp.Keeps (fun _ => False) w1 wx → wx.cell? ⟨p, 4 + i.b.toNat, none⟩ = some (.int .u32 (s.reg i.b)) := fun wx kx => (hp1.keep kx (fun e => e)).coreReg hs.len i.b hi.b
  have qc : ∀ wx, Dp.Keeps (fun _ => False) w1 wx → wx.cell? ⟨p, 4 + i.c.toNat, none⟩ = some (.int .u32 (s.reg i.c)) := fun wx kx => (hp1.keep kx (fun e => e)).coreReg hs.len i.c hi.c
  have hib := hi.b
  have hic := hi.c
  have hb := hs.reg i.b
  have hc := hs.reg i.c
  have hnw := Dp.wrap_word i.n
  unfold Dp.isWord at hb hc hnw
  have hS0 : Dp.Keeps (fun _ => False) w1 w1.drew := (Dp.Keeps.refl _ _).drew
  have HV := Hid.mk_ (Dp.bits_and _ _ hb hc)
  go_wp2
  refine Dp.wp_region_L (fun wx => Dp.Keeps (fun _ => False) w1 wx) 19 mixedP ?_
  refine' Dp.wpAnyL_take 0 rfl (by kernel_rfl) (fun _ _ _ h => h) (by rfl) ?hy0 hS0 ?rest0
  case hy0 => intro wx hSx; go_simp; try with_reducible rfl
  simp only [Act.put, List.getElem_toArray, List.getElem_cons_zero, List.setIfInBounds_toArray, List.set_cons_zero, List.set_cons_succ]
  refine' Dp.wpAnyL_take 1 rfl (by kernel_rfl) (fun _ _ _ h => h) (by rfl) ?hy1 hS0 ?rest1
  case hy1 => intro wx hSx; go_simp; try with_reducible rfl
  simp only [Act.put, List.getElem_toArray, List.getElem_cons_zero, List.getElem_cons_succ, List.setIfInBounds_toArray, List.set_cons_zero, List.set_cons_succ]
  refine' Dp.wpAnyL_take 2 rfl (by kernel_rfl) (fun _ _ _ h => h) (by rfl) ?hy2 hS0 ?rest2
  case hy2 => intro wx hSx; go_simp; try with_reducible rfl
  simp only [Act.put, List.getElem_toArray, List.getElem_cons_zero, List.getElem_cons_succ, List.setIfInBounds_toArray, List.set_cons_zero, List.set_cons_succ]
  refine' Dp.wpAnyL_take 3 rfl (by kernel_rfl) (fun _ _ _ h => h) (by rfl) ?hy3 hS0 ?rest3
  case hy3 => intro wx hSx; go_simp; try with_reducible rfl
  simp only [Act.put, List.getElem_toArray, List.getElem_cons_zero, List.getElem_cons_succ, List.setIfInBounds_toArray, List.set_cons_zero, List.set_cons_succ]
  refine' Dp.wpAnyL_take 4 rfl (by kernel_rfl) (fun _ _ _ h => h) (by rfl) ?hy4 hS0 ?rest4
  case hy4 => intro wx hSx; go_simp; try with_reducible rfl
  simp only [Act.put, List.getElem_toArray, List.getElem_cons_zero, List.getElem_cons_succ, List.setIfInBounds_toArray, List.set_cons_zero, List.set_cons_succ]
  refine' Dp.wpAnyL_take 5 rfl (by kernel_rfl) (fun _ _ _ h => h) (by rfl) ?hy5 hS0 ?rest5
  case hy5 => intro wx hSx; go_simp; try with_reducible rfl
  simp only [Act.put, List.getElem_toArray, List.getElem_cons_zero, List.getElem_cons_succ, List.setIfInBounds_toArray, List.set_cons_zero, List.set_cons_succ]
  refine' Dp.wpAnyL_take 6 rfl (by kernel_rfl) (fun _ _ _ h => h) (by rfl) ?hy6 hS0 ?rest6
  case hy6 => intro wx hSx; go_simp; try with_reducible rfl
  simp only [Act.put, List.getElem_toArray, List.getElem_cons_zero, List.getElem_cons_succ, List.setIfInBounds_toArray, List.set_cons_zero, List.set_cons_succ]
  refine' Dp.wpAnyL_take 7 rfl (by kernel_rfl) (fun _ _ _ h => h) (by rfl) ?hy7 hS0 ?rest7
  case hy7 => intro wx hSx; go_simp; try with_reducible rfl
  simp only [Act.put, List.getElem_toArray, List.getElem_cons_zero, List.getElem_cons_succ, List.setIfInBounds_toArray, List.set_cons_zero, List.set_cons_succ]
  refine' Dp.wpAnyL_take 8 rfl (by kernel_rfl) (fun _ _ _ h => h) (by rfl) ?hy8 hS0 ?rest8
  case hy8 => intro wx hSx; go_simp; try with_reducible rfl
  simp only [Act.put, List.getElem_toArray, List.getElem_cons_zero, List.getElem_cons_succ, List.setIfInBounds_toArray, List.set_cons_zero, List.set_cons_succ]
  refine' Dp.wpAnyL_take 9 rfl (by kernel_rfl) (fun _ _ _ h => h) (by rfl) ?hy9 hS0 ?rest9
  case hy9 => intro wx hSx; go_simp; try with_reducible rfl
  simp only [Act.put, List.getElem_toArray, List.getElem_cons_zero, List.getElem_cons_succ, List.setIfInBounds_toArray, List.set_cons_zero, List.set_cons_succ]
  refine' Dp.wpAnyL_take 10 rfl (by kernel_rfl) (fun _ _ _ h => h) (by rfl) ?hy10 hS0 ?rest10
  case hy10 => intro wx hSx; go_simp; try with_reducible rfl
  simp only [Act.put, List.getElem_toArray, List.getElem_cons_zero, List.getElem_cons_succ, List.setIfInBounds_toArray, List.set_cons_zero, List.set_cons_succ]
  refine' Dp.wpAnyL_take 11 rfl (by kernel_rfl) (fun _ _ _ h => h) (by rfl) ?hy11 hS0 ?rest11
  case hy11 => intro wx hSx; go_simp; try with_reducible rfl
  simp only [Act.put, List.getElem_toArray, List.getElem_cons_zero, List.getElem_cons_succ, List.setIfInBounds_toArray, List.set_cons_zero, List.set_cons_succ]
  refine' Dp.wpAnyL_take 12 rfl (by kernel_rfl) (fun _ _ _ h => h) (by rfl) ?hy12 hS0 ?rest12
  case hy12 => intro wx hSx; go_simp; try with_reducible rfl
  simp only [Act.put, List.getElem_toArray, List.getElem_cons_zero, List.getElem_cons_succ, List.setIfInBounds_toArray, List.set_cons_zero, List.set_cons_succ]
  refine' Dp.wpAnyL_take 13 rfl (by kernel_rfl) (fun _ _ _ h => h) (by rfl) ?hy13 hS0 ?rest13
  case hy13 => intro wx hSx; go_simp; try with_reducible rfl
  simp only [Act.put, List.getElem_toArray, List.getElem_cons_zero, List.getElem_cons_succ, List.setIfInBounds_toArray, List.set_cons_zero, List.set_cons_succ]
  refine' Dp.wpAnyL_take 14 rfl (by kernel_rfl) (fun _ _ _ h => h) (by rfl) ?hy14 hS0 ?rest14
  case hy14 => intro wx hSx; go_simp; try with_reducible rfl
  simp only [Act.put, List.getElem_toArray, List.getElem_cons_zero, List.getElem_cons_succ, List.setIfInBounds_toArray, List.set_cons_zero, List.set_cons_succ]
  refine' Dp.wpAnyL_take 15 rfl (by kernel_rfl) (fun _ _ _ h => h) (by rfl) ?hy15 hS0 ?rest15
  case hy15 => intro wx hSx; go_simp; try with_reducible rfl
  simp only [Act.put, List.getElem_toArray, List.getElem_cons_zero, List.getElem_cons_succ, List.setIfInBounds_toArray, List.set_cons_zero, List.set_cons_succ]
  refine' Dp.wpAnyL_take 16 rfl (by kernel_rfl) (fun _ _ _ h => h) (by rfl) ?hy16 hS0 ?rest16
  case hy16 => intro wx hSx; go_simp; try with_reducible rfl
  simp only [Act.put, List.getElem_toArray, List.getElem_cons_zero, List.getElem_cons_succ, List.setIfInBounds_toArray, List.set_cons_zero, List.set_cons_succ]
  refine' Dp.wpAnyL_take 17 rfl (by kernel_rfl) (fun _ _ _ h => h) (by rfl) ?hy17 hS0 ?rest17
  case hy17 => intro wx hSx; go_simp; try with_reducible rfl
  simp only [Act.put, List.getElem_toArray, List.getElem_cons_zero, List.getElem_cons_succ, List.setIfInBounds_toArray, List.set_cons_zero, List.set_cons_succ]
  refine' Dp.wpAnyL_take 18 rfl (by kernel_rfl) (fun _ _ _ h => h) (by rfl) ?hy18 hS0 ?rest18
  case hy18 => intro wx hSx; go_simp; try with_reducible rfl
  simp only [Act.put, List.getElem_toArray, List.getElem_cons_zero, List.getElem_cons_succ, List.setIfInBounds_toArray, List.set_cons_zero, List.set_cons_succ]
  refine Dp.wpAnyL_one 19 rfl (by kernel_rfl) (by rfl) (fun K hK => ?_)
  go_simp
  refine (progPut s mem i _ p _ hs hi hp1.drew).mono ?_
  rintro e w' ⟨rfl, hr, hk⟩
  refine hK _ _ ⟨fun h => absurd h (Nat.lt_irrefl _), ?_⟩
  clear hK K
  refine Dp.wpAnyL_one 20 rfl (by kernel_rfl) (by rfl) (fun K hK => ?_)
  go_simp
  refine hK _ _ ⟨fun h => absurd h (by decide), ?_⟩
  clear hK K
  refine Dp.wpAnyL_done (by kernel_rfl) ?_ _
  go_wp2
  go_ret
  rw [HV.out.1] at hr
  exact ⟨rfl, hr, (Dp.Keeps.mono (T := fun k => k = p) k1.drew (fun _ _ e => e.elim)).next hk (fun _ _ e => e)⟩

set_option maxRecDepth 100000 in
set_option maxHeartbeats 1000000 in
theorem progOr (s : Dp.Cs) (mem : Value) (i : Dp.Ins) (p : Nat) (w : World) (hs : s.Ok) (hi : i.Ok) (hp : Dp.Row w p 109 (Dp.coreCells s mem)) :
    Calls Tryz.prog 120 #[.pointer (some ⟨p, 0, none⟩), .agg (Dp.pinsCells i).toArray] w fun e w' => e = .returned (.int .i64 0) ∧ Dp.Row w' p 109 (Dp.coreCells (Dp.putted s i (Dp.bits 5 (s.reg i.b) (s.reg i.c))) mem) ∧ Dp.Keeps (fun k => k = p) w w' := by
  go_enter Tryz.func120, Tryz.ntmps120
  go_wp2_with (refine Dp.wpList_box_row rfl 165 _ rfl (Dp.pinsCells i) rfl ?_)
  intro w1 r1 z1 k1
  have hp1 := hp.keep k1 (fun e => e)
  have q0 : ∀ wx, Dp.Keeps (fun _ => False) w1 wx → wx.cell? ⟨w.heap.size, 0, none⟩ = some (.int .u32 i.op) := fun wx kx => ((r1.keep kx (fun e => e)).pins).1
  have q1 : ∀ wx, Dp.Keeps (fun _ => False) w1 wx → wx.cell? ⟨w.heap.size, 1, none⟩ = some (.int .u32 i.a) := fun wx kx => ((r1.keep kx (fun e => e)).pins).2.1
  have q2 : ∀ wx, Dp.Keeps (fun _ => False) w1 wx → wx.cell? ⟨w.heap.size, 2, none⟩ = some (.int .u32 i.b) := fun wx kx => ((r1.keep kx (fun e => e)).pins).2.2.1
  have q3 : ∀ wx, Dp.Keeps (fun _ => False) w1 wx → wx.cell? ⟨w.heap.size, 3, none⟩ = some (.int .u32 i.c) := fun wx kx => ((r1.keep kx (fun e => e)).pins).2.2.2.1
  have q4 : ∀ wx, Dp.Keeps (fun _ => False) w1 wx → wx.cell? ⟨w.heap.size, 4, none⟩ = some (.int .u32 (Dp.wrap i.n)) := fun wx kx => ((r1.keep kx (fun e => e)).pins).2.2.2.2
  have qb : ∀ wx, Dp.Keeps (fun _ => False) w1 wx → wx.cell? ⟨p, 4 + i.b.toNat, none⟩ = some (.int .u32 (s.reg i.b)) := fun wx kx => (hp1.keep kx (fun e => e)).coreReg hs.len i.b hi.b
  have qc : ∀ wx, Dp.Keeps (fun _ => False) w1 wx → wx.cell? ⟨p, 4 + i.c.toNat, none⟩ = some (.int .u32 (s.reg i.c)) := fun wx kx => (hp1.keep kx (fun e => e)).coreReg hs.len i.c hi.c
  have hib := hi.b
  have hic := hi.c
  have hb := hs.reg i.b
  have hc := hs.reg i.c
  have hnw := Dp.wrap_word i.n
  unfold Dp.isWord at hb hc hnw
  have hS0 : Dp.Keeps (fun _ => False) w1 w1.drew := (Dp.Keeps.refl _ _).drew
  have HV := Hid.mk_ (Dp.bits_and _ _ hb hc)
  go_wp2
  refine Dp.wp_region_L (fun wx => Dp.Keeps (fun _ => False) w1 wx) 19 mixedP ?_
  refine' Dp.wpAnyL_take 0 rfl (by kernel_rfl) (fun _ _ _ h => h) (by rfl) ?hy0 hS0 ?rest0
  case hy0 => intro wx hSx; go_simp; try with_reducible rfl
  simp only [Act.put, List.getElem_toArray, List.getElem_cons_zero, List.setIfInBounds_toArray, List.set_cons_zero, List.set_cons_succ]
  refine' Dp.wpAnyL_take 1 rfl (by kernel_rfl) (fun _ _ _ h => h) (by rfl) ?hy1 hS0 ?rest1
  case hy1 => intro wx hSx; go_simp; try with_reducible rfl
  simp only [Act.put, List.getElem_toArray, List.getElem_cons_zero, List.getElem_cons_succ, List.setIfInBounds_toArray, List.set_cons_zero, List.set_cons_succ]
  refine' Dp.wpAnyL_take 2 rfl (by kernel_rfl) (fun _ _ _ h => h) (by rfl) ?hy2 hS0 ?rest2
  case hy2 => intro wx hSx; go_simp; try with_reducible rfl
  simp only [Act.put, List.getElem_toArray, List.getElem_cons_zero, List.getElem_cons_succ, List.setIfInBounds_toArray, List.set_cons_zero, List.set_cons_succ]
  refine' Dp.wpAnyL_take 3 rfl (by kernel_rfl) (fun _ _ _ h => h) (by rfl) ?hy3 hS0 ?rest3
  case hy3 => intro wx hSx; go_simp; try with_reducible rfl
  simp only [Act.put, List.getElem_toArray, List.getElem_cons_zero, List.getElem_cons_succ, List.setIfInBounds_toArray, List.set_cons_zero, List.set_cons_succ]
  refine' Dp.wpAnyL_take 4 rfl (by kernel_rfl) (fun _ _ _ h => h) (by rfl) ?hy4 hS0 ?rest4
  case hy4 => intro wx hSx; go_simp; try with_reducible rfl
  simp only [Act.put, List.getElem_toArray, List.getElem_cons_zero, List.getElem_cons_succ, List.setIfInBounds_toArray, List.set_cons_zero, List.set_cons_succ]
  refine' Dp.wpAnyL_take 5 rfl (by kernel_rfl) (fun _ _ _ h => h) (by rfl) ?hy5 hS0 ?rest5
  case hy5 => intro wx hSx; go_simp; try with_reducible rfl
  simp only [Act.put, List.getElem_toArray, List.getElem_cons_zero, List.getElem_cons_succ, List.setIfInBounds_toArray, List.set_cons_zero, List.set_cons_succ]
  refine' Dp.wpAnyL_take 6 rfl (by kernel_rfl) (fun _ _ _ h => h) (by rfl) ?hy6 hS0 ?rest6
  case hy6 => intro wx hSx; go_simp; try with_reducible rfl
  simp only [Act.put, List.getElem_toArray, List.getElem_cons_zero, List.getElem_cons_succ, List.setIfInBounds_toArray, List.set_cons_zero, List.set_cons_succ]
  refine' Dp.wpAnyL_take 7 rfl (by kernel_rfl) (fun _ _ _ h => h) (by rfl) ?hy7 hS0 ?rest7
  case hy7 => intro wx hSx; go_simp; try with_reducible rfl
  simp only [Act.put, List.getElem_toArray, List.getElem_cons_zero, List.getElem_cons_succ, List.setIfInBounds_toArray, List.set_cons_zero, List.set_cons_succ]
  refine' Dp.wpAnyL_take 8 rfl (by kernel_rfl) (fun _ _ _ h => h) (by rfl) ?hy8 hS0 ?rest8
  case hy8 => intro wx hSx; go_simp; try with_reducible rfl
  simp only [Act.put, List.getElem_toArray, List.getElem_cons_zero, List.getElem_cons_succ, List.setIfInBounds_toArray, List.set_cons_zero, List.set_cons_succ]
  refine' Dp.wpAnyL_take 9 rfl (by kernel_rfl) (fun _ _ _ h => h) (by rfl) ?hy9 hS0 ?rest9
  case hy9 => intro wx hSx; go_simp; try with_reducible rfl
  simp only [Act.put, List.getElem_toArray, List.getElem_cons_zero, List.getElem_cons_succ, List.setIfInBounds_toArray, List.set_cons_zero, List.set_cons_succ]
  refine' Dp.wpAnyL_take 10 rfl (by kernel_rfl) (fun _ _ _ h => h) (by rfl) ?hy10 hS0 ?rest10
  case hy10 => intro wx hSx; go_simp; try with_reducible rfl
  simp only [Act.put, List.getElem_toArray, List.getElem_cons_zero, List.getElem_cons_succ, List.setIfInBounds_toArray, List.set_cons_zero, List.set_cons_succ]
  refine' Dp.wpAnyL_take 11 rfl (by kernel_rfl) (fun _ _ _ h => h) (by rfl) ?hy11 hS0 ?rest11
  case hy11 => intro wx hSx; go_simp; try with_reducible rfl
  simp only [Act.put, List.getElem_toArray, List.getElem_cons_zero, List.getElem_cons_succ, List.setIfInBounds_toArray, List.set_cons_zero, List.set_cons_succ]
  refine' Dp.wpAnyL_take 12 rfl (by kernel_rfl) (fun _ _ _ h => h) (by rfl) ?hy12 hS0 ?rest12
  case hy12 => intro wx hSx; go_simp; try with_reducible rfl
  simp only [Act.put, List.getElem_toArray, List.getElem_cons_zero, List.getElem_cons_succ, List.setIfInBounds_toArray, List.set_cons_zero, List.set_cons_succ]
  refine' Dp.wpAnyL_take 13 rfl (by kernel_rfl) (fun _ _ _ h => h) (by rfl) ?hy13 hS0 ?rest13
  case hy13 => intro wx hSx; go_simp; try with_reducible rfl
  simp only [Act.put, List.getElem_toArray, List.getElem_cons_zero, List.getElem_cons_succ, List.setIfInBounds_toArray, List.set_cons_zero, List.set_cons_succ]
  refine' Dp.wpAnyL_take 14 rfl (by kernel_rfl) (fun _ _ _ h => h) (by rfl) ?hy14 hS0 ?rest14
  case hy14 => intro wx hSx; go_simp; try with_reducible rfl
  simp only [Act.put, List.getElem_toArray, List.getElem_cons_zero, List.getElem_cons_succ, List.setIfInBounds_toArray, List.set_cons_zero, List.set_cons_succ]
  refine' Dp.wpAnyL_take 15 rfl (by kernel_rfl) (fun _ _ _ h => h) (by rfl) ?hy15 hS0 ?rest15
  case hy15 => intro wx hSx; go_simp; try with_reducible rfl
  simp only [Act.put, List.getElem_toArray, List.getElem_cons_zero, List.getElem_cons_succ, List.setIfInBounds_toArray, List.set_cons_zero, List.set_cons_succ]
  refine' Dp.wpAnyL_take 16 rfl (by kernel_rfl) (fun _ _ _ h => h) (by rfl) ?hy16 hS0 ?rest16
  case hy16 => intro wx hSx; go_simp; try with_reducible rfl
  simp only [Act.put, List.getElem_toArray, List.getElem_cons_zero, List.getElem_cons_succ, List.setIfInBounds_toArray, List.set_cons_zero, List.set_cons_succ]
  refine' Dp.wpAnyL_take 17 rfl (by kernel_rfl) (fun _ _ _ h => h) (by rfl) ?hy17 hS0 ?rest17
  case hy17 => intro wx hSx; go_simp; try with_reducible rfl
  simp only [Act.put, List.getElem_toArray, List.getElem_cons_zero, List.getElem_cons_succ, List.setIfInBounds_toArray, List.set_cons_zero, List.set_cons_succ]
  refine' Dp.wpAnyL_take 18 rfl (by kernel_rfl) (fun _ _ _ h => h) (by rfl) ?hy18 hS0 ?rest18
  case hy18 => intro wx hSx; go_simp; try with_reducible rfl
  simp only [Act.put, List.getElem_toArray, List.getElem_cons_zero, List.getElem_cons_succ, List.setIfInBounds_toArray, List.set_cons_zero, List.set_cons_succ]
  refine Dp.wpAnyL_one 19 rfl (by kernel_rfl) (by rfl) (fun K hK => ?_)
  go_simp
  refine (progPut s mem i _ p _ hs hi hp1.drew).mono ?_
  rintro e w' ⟨rfl, hr, hk⟩
  refine hK _ _ ⟨fun h => absurd h (Nat.lt_irrefl _), ?_⟩
  clear hK K
  refine Dp.wpAnyL_one 20 rfl (by kernel_rfl) (by rfl) (fun K hK => ?_)
  go_simp
  refine hK _ _ ⟨fun h => absurd h (by decide), ?_⟩
  clear hK K
  refine Dp.wpAnyL_done (by kernel_rfl) ?_ _
  go_wp2
  go_ret
  rw [HV.out.2.1] at hr
  exact ⟨rfl, hr, (Dp.Keeps.mono (T := fun k => k = p) k1.drew (fun _ _ e => e.elim)).next hk (fun _ _ e => e)⟩

set_option maxRecDepth 100000 in
set_option maxHeartbeats 1000000 in
theorem progXor (s : Dp.Cs) (mem : Value) (i : Dp.Ins) (p : Nat) (w : World) (hs : s.Ok) (hi : i.Ok) (hp : Dp.Row w p 109 (Dp.coreCells s mem)) :
    Calls Tryz.prog 121 #[.pointer (some ⟨p, 0, none⟩), .agg (Dp.pinsCells i).toArray] w fun e w' => e = .returned (.int .i64 0) ∧ Dp.Row w' p 109 (Dp.coreCells (Dp.putted s i (Dp.bits 6 (s.reg i.b) (s.reg i.c))) mem) ∧ Dp.Keeps (fun k => k = p) w w' := by
  go_enter Tryz.func121, Tryz.ntmps121
  go_wp2_with (refine Dp.wpList_box_row rfl 165 _ rfl (Dp.pinsCells i) rfl ?_)
  intro w1 r1 z1 k1
  have hp1 := hp.keep k1 (fun e => e)
  have q0 : ∀ wx, Dp.Keeps (fun _ => False) w1 wx → wx.cell? ⟨w.heap.size, 0, none⟩ = some (.int .u32 i.op) := fun wx kx => ((r1.keep kx (fun e => e)).pins).1
  have q1 : ∀ wx, Dp.Keeps (fun _ => False) w1 wx → wx.cell? ⟨w.heap.size, 1, none⟩ = some (.int .u32 i.a) := fun wx kx => ((r1.keep kx (fun e => e)).pins).2.1
  have q2 : ∀ wx, Dp.Keeps (fun _ => False) w1 wx → wx.cell? ⟨w.heap.size, 2, none⟩ = some (.int .u32 i.b) := fun wx kx => ((r1.keep kx (fun e => e)).pins).2.2.1
  have q3 : ∀ wx, Dp.Keeps (fun _ => False) w1 wx → wx.cell? ⟨w.heap.size, 3, none⟩ = some (.int .u32 i.c) := fun wx kx => ((r1.keep kx (fun e => e)).pins).2.2.2.1
  have q4 : ∀ wx, Dp.Keeps (fun _ => False) w1 wx → wx.cell? ⟨w.heap.size, 4, none⟩ = some (.int .u32 (Dp.wrap i.n)) := fun wx kx => ((r1.keep kx (fun e => e)).pins).2.2.2.2
  have qb : ∀ wx, Dp.Keeps (fun _ => False) w1 wx → wx.cell? ⟨p, 4 + i.b.toNat, none⟩ = some (.int .u32 (s.reg i.b)) := fun wx kx => (hp1.keep kx (fun e => e)).coreReg hs.len i.b hi.b
  have qc : ∀ wx, Dp.Keeps (fun _ => False) w1 wx → wx.cell? ⟨p, 4 + i.c.toNat, none⟩ = some (.int .u32 (s.reg i.c)) := fun wx kx => (hp1.keep kx (fun e => e)).coreReg hs.len i.c hi.c
  have hib := hi.b
  have hic := hi.c
  have hb := hs.reg i.b
  have hc := hs.reg i.c
  have hnw := Dp.wrap_word i.n
  unfold Dp.isWord at hb hc hnw
  have hS0 : Dp.Keeps (fun _ => False) w1 w1.drew := (Dp.Keeps.refl _ _).drew
  have HV := Hid.mk_ (Dp.bits_and _ _ hb hc)
  go_wp2
  refine Dp.wp_region_L (fun wx => Dp.Keeps (fun _ => False) w1 wx) 19 mixedP ?_
  refine' Dp.wpAnyL_take 0 rfl (by kernel_rfl) (fun _ _ _ h => h) (by rfl) ?hy0 hS0 ?rest0
  case hy0 => intro wx hSx; go_simp; try with_reducible rfl
  simp only [Act.put, List.getElem_toArray, List.getElem_cons_zero, List.setIfInBounds_toArray, List.set_cons_zero, List.set_cons_succ]
  refine' Dp.wpAnyL_take 1 rfl (by kernel_rfl) (fun _ _ _ h => h) (by rfl) ?hy1 hS0 ?rest1
  case hy1 => intro wx hSx; go_simp; try with_reducible rfl
  simp only [Act.put, List.getElem_toArray, List.getElem_cons_zero, List.getElem_cons_succ, List.setIfInBounds_toArray, List.set_cons_zero, List.set_cons_succ]
  refine' Dp.wpAnyL_take 2 rfl (by kernel_rfl) (fun _ _ _ h => h) (by rfl) ?hy2 hS0 ?rest2
  case hy2 => intro wx hSx; go_simp; try with_reducible rfl
  simp only [Act.put, List.getElem_toArray, List.getElem_cons_zero, List.getElem_cons_succ, List.setIfInBounds_toArray, List.set_cons_zero, List.set_cons_succ]
  refine' Dp.wpAnyL_take 3 rfl (by kernel_rfl) (fun _ _ _ h => h) (by rfl) ?hy3 hS0 ?rest3
  case hy3 => intro wx hSx; go_simp; try with_reducible rfl
  simp only [Act.put, List.getElem_toArray, List.getElem_cons_zero, List.getElem_cons_succ, List.setIfInBounds_toArray, List.set_cons_zero, List.set_cons_succ]
  refine' Dp.wpAnyL_take 4 rfl (by kernel_rfl) (fun _ _ _ h => h) (by rfl) ?hy4 hS0 ?rest4
  case hy4 => intro wx hSx; go_simp; try with_reducible rfl
  simp only [Act.put, List.getElem_toArray, List.getElem_cons_zero, List.getElem_cons_succ, List.setIfInBounds_toArray, List.set_cons_zero, List.set_cons_succ]
  refine' Dp.wpAnyL_take 5 rfl (by kernel_rfl) (fun _ _ _ h => h) (by rfl) ?hy5 hS0 ?rest5
  case hy5 => intro wx hSx; go_simp; try with_reducible rfl
  simp only [Act.put, List.getElem_toArray, List.getElem_cons_zero, List.getElem_cons_succ, List.setIfInBounds_toArray, List.set_cons_zero, List.set_cons_succ]
  refine' Dp.wpAnyL_take 6 rfl (by kernel_rfl) (fun _ _ _ h => h) (by rfl) ?hy6 hS0 ?rest6
  case hy6 => intro wx hSx; go_simp; try with_reducible rfl
  simp only [Act.put, List.getElem_toArray, List.getElem_cons_zero, List.getElem_cons_succ, List.setIfInBounds_toArray, List.set_cons_zero, List.set_cons_succ]
  refine' Dp.wpAnyL_take 7 rfl (by kernel_rfl) (fun _ _ _ h => h) (by rfl) ?hy7 hS0 ?rest7
  case hy7 => intro wx hSx; go_simp; try with_reducible rfl
  simp only [Act.put, List.getElem_toArray, List.getElem_cons_zero, List.getElem_cons_succ, List.setIfInBounds_toArray, List.set_cons_zero, List.set_cons_succ]
  refine' Dp.wpAnyL_take 8 rfl (by kernel_rfl) (fun _ _ _ h => h) (by rfl) ?hy8 hS0 ?rest8
  case hy8 => intro wx hSx; go_simp; try with_reducible rfl
  simp only [Act.put, List.getElem_toArray, List.getElem_cons_zero, List.getElem_cons_succ, List.setIfInBounds_toArray, List.set_cons_zero, List.set_cons_succ]
  refine' Dp.wpAnyL_take 9 rfl (by kernel_rfl) (fun _ _ _ h => h) (by rfl) ?hy9 hS0 ?rest9
  case hy9 => intro wx hSx; go_simp; try with_reducible rfl
  simp only [Act.put, List.getElem_toArray, List.getElem_cons_zero, List.getElem_cons_succ, List.setIfInBounds_toArray, List.set_cons_zero, List.set_cons_succ]
  refine' Dp.wpAnyL_take 10 rfl (by kernel_rfl) (fun _ _ _ h => h) (by rfl) ?hy10 hS0 ?rest10
  case hy10 => intro wx hSx; go_simp; try with_reducible rfl
  simp only [Act.put, List.getElem_toArray, List.getElem_cons_zero, List.getElem_cons_succ, List.setIfInBounds_toArray, List.set_cons_zero, List.set_cons_succ]
  refine' Dp.wpAnyL_take 11 rfl (by kernel_rfl) (fun _ _ _ h => h) (by rfl) ?hy11 hS0 ?rest11
  case hy11 => intro wx hSx; go_simp; try with_reducible rfl
  simp only [Act.put, List.getElem_toArray, List.getElem_cons_zero, List.getElem_cons_succ, List.setIfInBounds_toArray, List.set_cons_zero, List.set_cons_succ]
  refine' Dp.wpAnyL_take 12 rfl (by kernel_rfl) (fun _ _ _ h => h) (by rfl) ?hy12 hS0 ?rest12
  case hy12 => intro wx hSx; go_simp; try with_reducible rfl
  simp only [Act.put, List.getElem_toArray, List.getElem_cons_zero, List.getElem_cons_succ, List.setIfInBounds_toArray, List.set_cons_zero, List.set_cons_succ]
  refine' Dp.wpAnyL_take 13 rfl (by kernel_rfl) (fun _ _ _ h => h) (by rfl) ?hy13 hS0 ?rest13
  case hy13 => intro wx hSx; go_simp; try with_reducible rfl
  simp only [Act.put, List.getElem_toArray, List.getElem_cons_zero, List.getElem_cons_succ, List.setIfInBounds_toArray, List.set_cons_zero, List.set_cons_succ]
  refine' Dp.wpAnyL_take 14 rfl (by kernel_rfl) (fun _ _ _ h => h) (by rfl) ?hy14 hS0 ?rest14
  case hy14 => intro wx hSx; go_simp; try with_reducible rfl
  simp only [Act.put, List.getElem_toArray, List.getElem_cons_zero, List.getElem_cons_succ, List.setIfInBounds_toArray, List.set_cons_zero, List.set_cons_succ]
  refine' Dp.wpAnyL_take 15 rfl (by kernel_rfl) (fun _ _ _ h => h) (by rfl) ?hy15 hS0 ?rest15
  case hy15 => intro wx hSx; go_simp; try with_reducible rfl
  simp only [Act.put, List.getElem_toArray, List.getElem_cons_zero, List.getElem_cons_succ, List.setIfInBounds_toArray, List.set_cons_zero, List.set_cons_succ]
  refine' Dp.wpAnyL_take 16 rfl (by kernel_rfl) (fun _ _ _ h => h) (by rfl) ?hy16 hS0 ?rest16
  case hy16 => intro wx hSx; go_simp; try with_reducible rfl
  simp only [Act.put, List.getElem_toArray, List.getElem_cons_zero, List.getElem_cons_succ, List.setIfInBounds_toArray, List.set_cons_zero, List.set_cons_succ]
  refine' Dp.wpAnyL_take 17 rfl (by kernel_rfl) (fun _ _ _ h => h) (by rfl) ?hy17 hS0 ?rest17
  case hy17 => intro wx hSx; go_simp; try with_reducible rfl
  simp only [Act.put, List.getElem_toArray, List.getElem_cons_zero, List.getElem_cons_succ, List.setIfInBounds_toArray, List.set_cons_zero, List.set_cons_succ]
  refine' Dp.wpAnyL_take 18 rfl (by kernel_rfl) (fun _ _ _ h => h) (by rfl) ?hy18 hS0 ?rest18
  case hy18 => intro wx hSx; go_simp; try with_reducible rfl
  simp only [Act.put, List.getElem_toArray, List.getElem_cons_zero, List.getElem_cons_succ, List.setIfInBounds_toArray, List.set_cons_zero, List.set_cons_succ]
  refine Dp.wpAnyL_one 19 rfl (by kernel_rfl) (by rfl) (fun K hK => ?_)
  go_simp
  refine (progPut s mem i _ p _ hs hi hp1.drew).mono ?_
  rintro e w' ⟨rfl, hr, hk⟩
  refine hK _ _ ⟨fun h => absurd h (Nat.lt_irrefl _), ?_⟩
  clear hK K
  refine Dp.wpAnyL_one 20 rfl (by kernel_rfl) (by rfl) (fun K hK => ?_)
  go_simp
  refine hK _ _ ⟨fun h => absurd h (by decide), ?_⟩
  clear hK K
  refine Dp.wpAnyL_done (by kernel_rfl) ?_ _
  go_wp2
  go_ret
  rw [HV.out.2.2] at hr
  exact ⟨rfl, hr, (Dp.Keeps.mono (T := fun k => k = p) k1.drew (fun _ _ e => e.elim)).next hk (fun _ _ e => e)⟩

set_option maxRecDepth 100000 in
set_option maxHeartbeats 1000000 in
theorem progSet (s : Dp.Cs) (mem : Value) (i : Dp.Ins) (p : Nat) (w : World) (hs : s.Ok) (hi : i.Ok) (hp : Dp.Row w p 109 (Dp.coreCells s mem)) :
    Calls Tryz.prog 126 #[.pointer (some ⟨p, 0, none⟩), .agg (Dp.pinsCells i).toArray] w fun e w' => e = .returned (.int .i64 0) ∧ Dp.Row w' p 109 (Dp.coreCells (Dp.putted s i (Dp.wrap (s.reg i.b + i.n))) mem) ∧ Dp.Keeps (fun k => k = p) w w' := by
  go_enter Tryz.func126, Tryz.ntmps126
  go_wp2_with (refine Dp.wpList_box_row rfl 165 _ rfl (Dp.pinsCells i) rfl ?_)
  intro w1 r1 z1 k1
  have hp1 := hp.keep k1 (fun e => e)
  have q0 : ∀ wx, Dp.Keeps (fun _ => False) w1 wx → wx.cell? ⟨w.heap.size, 0, none⟩ = some (.int .u32 i.op) := fun wx kx => ((r1.keep kx (fun e => e)).pins).1
  have q1 : ∀ wx, Dp.Keeps (fun _ => False) w1 wx → wx.cell? ⟨w.heap.size, 1, none⟩ = some (.int .u32 i.a) := fun wx kx => ((r1.keep kx (fun e => e)).pins).2.1
  have q2 : ∀ wx, Dp.Keeps (fun _ => False) w1 wx → wx.cell? ⟨w.heap.size, 2, none⟩ = some (.int .u32 i.b) := fun wx kx => ((r1.keep kx (fun e => e)).pins).2.2.1
  have q3 : ∀ wx, Dp.Keeps (fun _ => False) w1 wx → wx.cell? ⟨w.heap.size, 3, none⟩ = some (.int .u32 i.c) := fun wx kx => ((r1.keep kx (fun e => e)).pins).2.2.2.1
  have q4 : ∀ wx, Dp.Keeps (fun _ => False) w1 wx → wx.cell? ⟨w.heap.size, 4, none⟩ = some (.int .u32 (Dp.wrap i.n)) := fun wx kx => ((r1.keep kx (fun e => e)).pins).2.2.2.2
  have qb : ∀ wx, Dp.Keeps (fun _ => False) w1 wx → wx.cell? ⟨p, 4 + i.b.toNat, none⟩ = some (.int .u32 (s.reg i.b)) := fun wx kx => (hp1.keep kx (fun e => e)).coreReg hs.len i.b hi.b
  have qc : ∀ wx, Dp.Keeps (fun _ => False) w1 wx → wx.cell? ⟨p, 4 + i.c.toNat, none⟩ = some (.int .u32 (s.reg i.c)) := fun wx kx => (hp1.keep kx (fun e => e)).coreReg hs.len i.c hi.c
  have hib := hi.b
  have hic := hi.c
  have hb := hs.reg i.b
  have hc := hs.reg i.c
  have hnw := Dp.wrap_word i.n
  unfold Dp.isWord at hb hc hnw
  have hS0 : Dp.Keeps (fun _ => False) w1 w1.drew := (Dp.Keeps.refl _ _).drew
  have HV : Hid (IntKind.u32.wrap (s.reg i.b + Dp.wrap i.n) = Dp.wrap (s.reg i.b + i.n)) := by unfold Hid; rw [IntKind.wrap_u32]; unfold Dp.wrap; omega
  go_wp2
  refine Dp.wp_region_L (fun wx => Dp.Keeps (fun _ => False) w1 wx) 13 mixedP ?_
  refine' Dp.wpAnyL_take 0 rfl (by kernel_rfl) (fun _ _ _ h => h) (by rfl) ?hy0 hS0 ?rest0
  case hy0 => intro wx hSx; go_simp; try with_reducible rfl
  simp only [Act.put, List.getElem_toArray, List.getElem_cons_zero, List.setIfInBounds_toArray, List.set_cons_zero, List.set_cons_succ]
  refine' Dp.wpAnyL_take 1 rfl (by kernel_rfl) (fun _ _ _ h => h) (by rfl) ?hy1 hS0 ?rest1
  case hy1 => intro wx hSx; go_simp; try with_reducible rfl
  simp only [Act.put, List.getElem_toArray, List.getElem_cons_zero, List.getElem_cons_succ, List.setIfInBounds_toArray, List.set_cons_zero, List.set_cons_succ]
  refine' Dp.wpAnyL_take 2 rfl (by kernel_rfl) (fun _ _ _ h => h) (by rfl) ?hy2 hS0 ?rest2
  case hy2 => intro wx hSx; go_simp; try with_reducible rfl
  simp only [Act.put, List.getElem_toArray, List.getElem_cons_zero, List.getElem_cons_succ, List.setIfInBounds_toArray, List.set_cons_zero, List.set_cons_succ]
  refine' Dp.wpAnyL_take 3 rfl (by kernel_rfl) (fun _ _ _ h => h) (by rfl) ?hy3 hS0 ?rest3
  case hy3 => intro wx hSx; go_simp; try with_reducible rfl
  simp only [Act.put, List.getElem_toArray, List.getElem_cons_zero, List.getElem_cons_succ, List.setIfInBounds_toArray, List.set_cons_zero, List.set_cons_succ]
  refine' Dp.wpAnyL_take 4 rfl (by kernel_rfl) (fun _ _ _ h => h) (by rfl) ?hy4 hS0 ?rest4
  case hy4 => intro wx hSx; go_simp; try with_reducible rfl
  simp only [Act.put, List.getElem_toArray, List.getElem_cons_zero, List.getElem_cons_succ, List.setIfInBounds_toArray, List.set_cons_zero, List.set_cons_succ]
  refine' Dp.wpAnyL_take 5 rfl (by kernel_rfl) (fun _ _ _ h => h) (by rfl) ?hy5 hS0 ?rest5
  case hy5 => intro wx hSx; go_simp; try with_reducible rfl
  simp only [Act.put, List.getElem_toArray, List.getElem_cons_zero, List.getElem_cons_succ, List.setIfInBounds_toArray, List.set_cons_zero, List.set_cons_succ]
  refine' Dp.wpAnyL_take 6 rfl (by kernel_rfl) (fun _ _ _ h => h) (by rfl) ?hy6 hS0 ?rest6
  case hy6 => intro wx hSx; go_simp; try with_reducible rfl
  simp only [Act.put, List.getElem_toArray, List.getElem_cons_zero, List.getElem_cons_succ, List.setIfInBounds_toArray, List.set_cons_zero, List.set_cons_succ]
  refine' Dp.wpAnyL_take 7 rfl (by kernel_rfl) (fun _ _ _ h => h) (by rfl) ?hy7 hS0 ?rest7
  case hy7 => intro wx hSx; go_simp; try with_reducible rfl
  simp only [Act.put, List.getElem_toArray, List.getElem_cons_zero, List.getElem_cons_succ, List.setIfInBounds_toArray, List.set_cons_zero, List.set_cons_succ]
  refine' Dp.wpAnyL_take 8 rfl (by kernel_rfl) (fun _ _ _ h => h) (by rfl) ?hy8 hS0 ?rest8
  case hy8 => intro wx hSx; go_simp; try with_reducible rfl
  simp only [Act.put, List.getElem_toArray, List.getElem_cons_zero, List.getElem_cons_succ, List.setIfInBounds_toArray, List.set_cons_zero, List.set_cons_succ]
  refine' Dp.wpAnyL_take 9 rfl (by kernel_rfl) (fun _ _ _ h => h) (by rfl) ?hy9 hS0 ?rest9
  case hy9 => intro wx hSx; go_simp; try with_reducible rfl
  simp only [Act.put, List.getElem_toArray, List.getElem_cons_zero, List.getElem_cons_succ, List.setIfInBounds_toArray, List.set_cons_zero, List.set_cons_succ]
  refine' Dp.wpAnyL_take 10 rfl (by kernel_rfl) (fun _ _ _ h => h) (by rfl) ?hy10 hS0 ?rest10
  case hy10 => intro wx hSx; go_simp; try with_reducible rfl
  simp only [Act.put, List.getElem_toArray, List.getElem_cons_zero, List.getElem_cons_succ, List.setIfInBounds_toArray, List.set_cons_zero, List.set_cons_succ]
  refine' Dp.wpAnyL_take 11 rfl (by kernel_rfl) (fun _ _ _ h => h) (by rfl) ?hy11 hS0 ?rest11
  case hy11 => intro wx hSx; go_simp; try with_reducible rfl
  simp only [Act.put, List.getElem_toArray, List.getElem_cons_zero, List.getElem_cons_succ, List.setIfInBounds_toArray, List.set_cons_zero, List.set_cons_succ]
  refine' Dp.wpAnyL_take 12 rfl (by kernel_rfl) (fun _ _ _ h => h) (by rfl) ?hy12 hS0 ?rest12
  case hy12 => intro wx hSx; go_simp; try with_reducible rfl
  simp only [Act.put, List.getElem_toArray, List.getElem_cons_zero, List.getElem_cons_succ, List.setIfInBounds_toArray, List.set_cons_zero, List.set_cons_succ]
  refine Dp.wpAnyL_one 13 rfl (by kernel_rfl) (by rfl) (fun K hK => ?_)
  go_simp
  refine (progPut s mem i _ p _ hs hi hp1.drew).mono ?_
  rintro e w' ⟨rfl, hr, hk⟩
  refine hK _ _ ⟨fun h => absurd h (Nat.lt_irrefl _), ?_⟩
  clear hK K
  refine Dp.wpAnyL_one 14 rfl (by kernel_rfl) (by rfl) (fun K hK => ?_)
  go_simp
  refine hK _ _ ⟨fun h => absurd h (by decide), ?_⟩
  clear hK K
  refine Dp.wpAnyL_done (by kernel_rfl) ?_ _
  go_wp2
  go_ret
  rw [HV.out] at hr
  exact ⟨rfl, hr, (Dp.Keeps.mono (T := fun k => k = p) k1.drew (fun _ _ e => e.elim)).next hk (fun _ _ e => e)⟩

end Go.Proofs.YtdipojfngdceoabGreatDoor
