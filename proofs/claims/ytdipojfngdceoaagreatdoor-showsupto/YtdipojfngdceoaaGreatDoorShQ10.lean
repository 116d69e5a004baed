/- Steps on the way: ProgAlu, ProgRoot. -/
import Derived.Test.YtdipojfngdceoaaGreatDoorShQ04
import Derived.Test.YtdipojfngdceoaaGreatDoorShQ09
import Derived.Test.YtdipojfngdceoaaGreatDoorProg
import Derived.WalkKit
import Derived.WalkSpells
import Derived.WalkLawsBesides
namespace Go.Proofs.YtdipojfngdceoaaGreatDoor
open Go.RowKit
theorem mixedP : Tryz.prog.follows .mixedOrders = true := by kernel_rfl
namespace Dp
theorem bits_and (x y : Int) (hx : 0 ≤ x ∧ x < 4294967296) (hy : 0 ≤ y ∧ y < 4294967296) : Go.bits .and .u32 x y = bits 4 x y ∧ Go.bits .or .u32 x y = bits 5 x y ∧ Go.bits .xor .u32 x y = bits 6 x y := by
 obtain ⟨a, rfl⟩ := Int.eq_ofNat_of_zero_le hx.1
 obtain ⟨b, rfl⟩ := Int.eq_ofNat_of_zero_le hy.1
 obtain ⟨h1, h2, h3⟩ := bits_u32_nat a b (by omega) (by omega)
 refine ⟨h1.trans ?_, h2.trans ?_, h3.trans ?_⟩ <;> simp [bits]
end Dp
set_option maxRecDepth 100000 in
set_option maxHeartbeats 1000000 in
theorem progAdd (s : Dp.Cs) (mem : Value) (i : Dp.Ins) (p : Nat) (w : World) (hs : s.Ok) (hi : i.Ok) (hp : Dp.Row w p 137 (Dp.coreCells s mem)) :
  Calls Tryz.prog 129 #[.pointer (some ⟨p, 0, none⟩), .agg (Dp.pinsCells i).toArray] w fun e w' => e = .returned (.int .i64 0) ∧ Dp.Row w' p 137 (Dp.coreCells (Dp.putted s i (Dp.wrap (s.reg i.b + s.reg i.c))) mem) ∧ Dp.Keeps (fun k => k = p) w w' := by
 go_enter Tryz.func129, Tryz.ntmps129
 go_wp2_with (refine Dp.wpList_box_row rfl 179 _ rfl (Dp.pinsCells i) rfl ?_)
 intro w1 r1 z1 k1
 have hp1 := hp.keep k1 (fun e => e)
 have q0 : ∀ wx, Dp.Keeps (fun _ => False) w1 wx → wx.cell? ⟨w.heap.size, 0, none⟩ = some (.int .u32 i.op) := fun wx kx => ((r1.keep kx (fun e => e)).pins).1
 have q1 : ∀ wx, Dp.Keeps (fun _ => False) w1 wx → wx.cell? ⟨w.heap.size, 1, none⟩ = some (.int .u32 i.a) := fun wx kx => ((r1.keep kx (fun e => e)).pins).2.1
 have q2 : ∀ wx, Dp.Keeps (fun _ => False) w1 wx → wx.cell? ⟨w.heap.size, 2, none⟩ = some (.int .u32 i.b) := fun wx kx => ((r1.keep kx (fun e => e)).pins).2.2.1
 have q3 : ∀ wx, Dp.Keeps (fun _ => False) w1 wx → wx.cell? ⟨w.heap.size, 3, none⟩ = some (.int .u32 i.c) := fun wx kx => ((r1.keep kx (fun e => e)).pins).2.2.2.1
 have q4 : ∀ wx, Dp.Keeps (fun _ => False) w1 wx → wx.cell? ⟨w.heap.size, 4, none⟩ = some (.int .u32 (Dp.wrap i.n)) := fun wx kx => ((r1.keep kx (fun e => e)).pins).2.2.2.2
 have qb : ∀ wx, Dp.Keeps (fun _ => False) w1 wx → wx.cell? ⟨p, 4 + i.b.toNat, none⟩ = some (.int .u32 (s.reg i.b)) := fun wx kx => (hp1.keep kx (fun e => e)).coreReg hs.len i.b hi.b
 have qc : ∀ wx, Dp.Keeps (fun _ => False) w1 wx → wx.cell? ⟨p, 4 + i.c.toNat, none⟩ = some (.int .u32 (s.reg i.c)) := fun wx kx => (hp1.keep kx (fun e => e)).coreReg hs.len i.c hi.c
 have hib := hi.b
 have hic := hi.c
 have hb := hs.reg i.b
 have hc := hs.reg i.c
 have hnw := Dp.wrap_word i.n
 unfold Dp.isWord at hb hc hnw
 have hS0 : Dp.Keeps (fun _ => False) w1 w1.drew := (Dp.Keeps.refl _ _).drew
 go_wp2
 refine Dp.wp_region_L (fun wx => Dp.Keeps (fun _ => False) w1 wx) 19 mixedP ?_
 refine' Dp.tj 0 hS0 ?_
 simp only [Act.put, Dp.tks]
 refine' Dp.tj 1 hS0 ?_
 simp only [Act.put, Dp.tks]
 refine' Dp.tj 2 hS0 ?_
 simp only [Act.put, Dp.tks]
 refine' Dp.tj 3 hS0 ?_
 simp only [Act.put, Dp.tks]
 refine' Dp.tj 4 hS0 ?_
 simp only [Act.put, Dp.tks]
 refine' Dp.tj 5 hS0 ?_
 simp only [Act.put, Dp.tks]
 refine' Dp.tj 6 hS0 ?_
 simp only [Act.put, Dp.tks]
 refine' Dp.tj 7 hS0 ?_
 simp only [Act.put, Dp.tks]
 refine' Dp.tj 8 hS0 ?_
 simp only [Act.put, Dp.tks]
 refine' Dp.tj 9 hS0 ?_
 simp only [Act.put, Dp.tks]
 refine' Dp.tj 10 hS0 ?_
 simp only [Act.put, Dp.tks]
 refine' Dp.tj 11 hS0 ?_
 simp only [Act.put, Dp.tks]
 refine' Dp.tj 12 hS0 ?_
 simp only [Act.put, Dp.tks]
 refine' Dp.tj 13 hS0 ?_
 simp only [Act.put, Dp.tks]
 refine' Dp.tj 14 hS0 ?_
 simp only [Act.put, Dp.tks]
 refine' Dp.tj 15 hS0 ?_
 simp only [Act.put, Dp.tks]
 refine' Dp.tj 16 hS0 ?_
 simp only [Act.put, Dp.tks]
 refine' Dp.tj 17 hS0 ?_
 simp only [Act.put, Dp.tks]
 refine' Dp.tj 18 hS0 ?_
 simp only [Act.put, Dp.tks]
 refine Dp.wpAnyL_one 19 rfl (by kernel_rfl) (by rfl) (fun K hK => ?_)
 go_simp
 refine (progPut s mem i _ p _ hs hi hp1.drew).mono ?_
 rintro e w' ⟨rfl, hr, hk⟩
 refine hK _ _ ⟨fun h => absurd h (Nat.lt_irrefl _), ?_⟩
 clear hK K
 refine Dp.wpAnyL_one 20 rfl (by kernel_rfl) (by rfl) (fun K hK => ?_)
 go_simp
 refine hK _ _ ⟨fun h => absurd h (by decide), ?_⟩
 clear hK K
 refine Dp.wpAnyL_done (by kernel_rfl) ?_ _
 go_wp2
 go_ret
 exact ⟨rfl, hr, (Dp.Keeps.mono (T := fun k => k = p) k1.drew (fun _ _ e => e.elim)).next hk (fun _ _ e => e)⟩
set_option maxRecDepth 100000 in
set_option maxHeartbeats 1000000 in
theorem progSub (s : Dp.Cs) (mem : Value) (i : Dp.Ins) (p : Nat) (w : World) (hs : s.Ok) (hi : i.Ok) (hp : Dp.Row w p 137 (Dp.coreCells s mem)) :
  Calls Tryz.prog 130 #[.pointer (some ⟨p, 0, none⟩), .agg (Dp.pinsCells i).toArray] w fun e w' => e = .returned (.int .i64 0) ∧ Dp.Row w' p 137 (Dp.coreCells (Dp.putted s i (Dp.wrap (s.reg i.b - s.reg i.c))) mem) ∧ Dp.Keeps (fun k => k = p) w w' := by
 go_enter Tryz.func130, Tryz.ntmps130
 go_wp2_with (refine Dp.wpList_box_row rfl 179 _ rfl (Dp.pinsCells i) rfl ?_)
 intro w1 r1 z1 k1
 have hp1 := hp.keep k1 (fun e => e)
 have q0 : ∀ wx, Dp.Keeps (fun _ => False) w1 wx → wx.cell? ⟨w.heap.size, 0, none⟩ = some (.int .u32 i.op) := fun wx kx => ((r1.keep kx (fun e => e)).pins).1
 have q1 : ∀ wx, Dp.Keeps (fun _ => False) w1 wx → wx.cell? ⟨w.heap.size, 1, none⟩ = some (.int .u32 i.a) := fun wx kx => ((r1.keep kx (fun e => e)).pins).2.1
 have q2 : ∀ wx, Dp.Keeps (fun _ => False) w1 wx → wx.cell? ⟨w.heap.size, 2, none⟩ = some (.int .u32 i.b) := fun wx kx => ((r1.keep kx (fun e => e)).pins).2.2.1
 have q3 : ∀ wx, Dp.Keeps (fun _ => False) w1 wx → wx.cell? ⟨w.heap.size, 3, none⟩ = some (.int .u32 i.c) := fun wx kx => ((r1.keep kx (fun e => e)).pins).2.2.2.1
 have q4 : ∀ wx, Dp.Keeps (fun _ => False) w1 wx → wx.cell? ⟨w.heap.size, 4, none⟩ = some (.int .u32 (Dp.wrap i.n)) := fun wx kx => ((r1.keep kx (fun e => e)).pins).2.2.2.2
 have qb : ∀ wx, Dp.Keeps (fun _ => False) w1 wx → wx.cell? ⟨p, 4 + i.b.toNat, none⟩ = some (.int .u32 (s.reg i.b)) := fun wx kx => (hp1.keep kx (fun e => e)).coreReg hs.len i.b hi.b
 have qc : ∀ wx, Dp.Keeps (fun _ => False) w1 wx → wx.cell? ⟨p, 4 + i.c.toNat, none⟩ = some (.int .u32 (s.reg i.c)) := fun wx kx => (hp1.keep kx (fun e => e)).coreReg hs.len i.c hi.c
 have hib := hi.b
 have hic := hi.c
 have hb := hs.reg i.b
 have hc := hs.reg i.c
 have hnw := Dp.wrap_word i.n
 unfold Dp.isWord at hb hc hnw
 have hS0 : Dp.Keeps (fun _ => False) w1 w1.drew := (Dp.Keeps.refl _ _).drew
 go_wp2
 refine Dp.wp_region_L (fun wx => Dp.Keeps (fun _ => False) w1 wx) 19 mixedP ?_
 refine' Dp.tj 0 hS0 ?_
 simp only [Act.put, Dp.tks]
 refine' Dp.tj 1 hS0 ?_
 simp only [Act.put, Dp.tks]
 refine' Dp.tj 2 hS0 ?_
 simp only [Act.put, Dp.tks]
 refine' Dp.tj 3 hS0 ?_
 simp only [Act.put, Dp.tks]
 refine' Dp.tj 4 hS0 ?_
 simp only [Act.put, Dp.tks]
 refine' Dp.tj 5 hS0 ?_
 simp only [Act.put, Dp.tks]
 refine' Dp.tj 6 hS0 ?_
 simp only [Act.put, Dp.tks]
 refine' Dp.tj 7 hS0 ?_
 simp only [Act.put, Dp.tks]
 refine' Dp.tj 8 hS0 ?_
 simp only [Act.put, Dp.tks]
 refine' Dp.tj 9 hS0 ?_
 simp only [Act.put, Dp.tks]
 refine' Dp.tj 10 hS0 ?_
 simp only [Act.put, Dp.tks]
 refine' Dp.tj 11 hS0 ?_
 simp only [Act.put, Dp.tks]
 refine' Dp.tj 12 hS0 ?_
 simp only [Act.put, Dp.tks]
 refine' Dp.tj 13 hS0 ?_
 simp only [Act.put, Dp.tks]
 refine' Dp.tj 14 hS0 ?_
 simp only [Act.put, Dp.tks]
 refine' Dp.tj 15 hS0 ?_
 simp only [Act.put, Dp.tks]
 refine' Dp.tj 16 hS0 ?_
 simp only [Act.put, Dp.tks]
 refine' Dp.tj 17 hS0 ?_
 simp only [Act.put, Dp.tks]
 refine' Dp.tj 18 hS0 ?_
 simp only [Act.put, Dp.tks]
 refine Dp.wpAnyL_one 19 rfl (by kernel_rfl) (by rfl) (fun K hK => ?_)
 go_simp
 refine (progPut s mem i _ p _ hs hi hp1.drew).mono ?_
 rintro e w' ⟨rfl, hr, hk⟩
 refine hK _ _ ⟨fun h => absurd h (Nat.lt_irrefl _), ?_⟩
 clear hK K
 refine Dp.wpAnyL_one 20 rfl (by kernel_rfl) (by rfl) (fun K hK => ?_)
 go_simp
 refine hK _ _ ⟨fun h => absurd h (by decide), ?_⟩
 clear hK K
 refine Dp.wpAnyL_done (by kernel_rfl) ?_ _
 go_wp2
 go_ret
 exact ⟨rfl, hr, (Dp.Keeps.mono (T := fun k => k = p) k1.drew (fun _ _ e => e.elim)).next hk (fun _ _ e => e)⟩
set_option maxRecDepth 100000 in
set_option maxHeartbeats 1000000 in
theorem progMul (s : Dp.Cs) (mem : Value) (i : Dp.Ins) (p : Nat) (w : World) (hs : s.Ok) (hi : i.Ok) (hp : Dp.Row w p 137 (Dp.coreCells s mem)) :
  Calls Tryz.prog 131 #[.pointer (some ⟨p, 0, none⟩), .agg (Dp.pinsCells i).toArray] w fun e w' => e = .returned (.int .i64 0) ∧ Dp.Row w' p 137 (Dp.coreCells (Dp.putted s i (Dp.wrap (s.reg i.b * s.reg i.c))) mem) ∧ Dp.Keeps (fun k => k = p) w w' := by
 go_enter Tryz.func131, Tryz.ntmps131
 go_wp2_with (refine Dp.wpList_box_row rfl 179 _ rfl (Dp.pinsCells i) rfl ?_)
 intro w1 r1 z1 k1
 have hp1 := hp.keep k1 (fun e => e)
 have q0 : ∀ wx, Dp.Keeps (fun _ => False) w1 wx → wx.cell? ⟨w.heap.size, 0, none⟩ = some (.int .u32 i.op) := fun wx kx => ((r1.keep kx (fun e => e)).pins).1
 have q1 : ∀ wx, Dp.Keeps (fun _ => False) w1 wx → wx.cell? ⟨w.heap.size, 1, none⟩ = some (.int .u32 i.a) := fun wx kx => ((r1.keep kx (fun e => e)).pins).2.1
 have q2 : ∀ wx, Dp.Keeps (fun _ => False) w1 wx → wx.cell? ⟨w.heap.size, 2, none⟩ = some (.int .u32 i.b) := fun wx kx => ((r1.keep kx (fun e => e)).pins).2.2.1
 have q3 : ∀ wx, Dp.Keeps (fun _ => False) w1 wx → wx.cell? ⟨w.heap.size, 3, none⟩ = some (.int .u32 i.c) := fun wx kx => ((r1.keep kx (fun e => e)).pins).2.2.2.1
 have q4 : ∀ wx, Dp.Keeps (fun _ => False) w1 wx → wx.cell? ⟨w.heap.size, 4, none⟩ = some (.int .u32 (Dp.wrap i.n)) := fun wx kx => ((r1.keep kx (fun e => e)).pins).2.2.2.2
 have qb : ∀ wx, Dp.Keeps (fun _ => False) w1 wx → wx.cell? ⟨p, 4 + i.b.toNat, none⟩ = some (.int .u32 (s.reg i.b)) := fun wx kx => (hp1.keep kx (fun e => e)).coreReg hs.len i.b hi.b
 have qc : ∀ wx, Dp.Keeps (fun _ => False) w1 wx → wx.cell? ⟨p, 4 + i.c.toNat, none⟩ = some (.int .u32 (s.reg i.c)) := fun wx kx => (hp1.keep kx (fun e => e)).coreReg hs.len i.c hi.c
 have hib := hi.b
 have hic := hi.c
 have hb := hs.reg i.b
 have hc := hs.reg i.c
 have hnw := Dp.wrap_word i.n
 unfold Dp.isWord at hb hc hnw
 have hS0 : Dp.Keeps (fun _ => False) w1 w1.drew := (Dp.Keeps.refl _ _).drew
 go_wp2
 refine Dp.wp_region_L (fun wx => Dp.Keeps (fun _ => False) w1 wx) 19 mixedP ?_
 refine' Dp.tj 0 hS0 ?_
 simp only [Act.put, Dp.tks]
 refine' Dp.tj 1 hS0 ?_
 simp only [Act.put, Dp.tks]
 refine' Dp.tj 2 hS0 ?_
 simp only [Act.put, Dp.tks]
 refine' Dp.tj 3 hS0 ?_
 simp only [Act.put, Dp.tks]
 refine' Dp.tj 4 hS0 ?_
 simp only [Act.put, Dp.tks]
 refine' Dp.tj 5 hS0 ?_
 simp only [Act.put, Dp.tks]
 refine' Dp.tj 6 hS0 ?_
 simp only [Act.put, Dp.tks]
 refine' Dp.tj 7 hS0 ?_
 simp only [Act.put, Dp.tks]
 refine' Dp.tj 8 hS0 ?_
 simp only [Act.put, Dp.tks]
 refine' Dp.tj 9 hS0 ?_
 simp only [Act.put, Dp.tks]
 refine' Dp.tj 10 hS0 ?_
 simp only [Act.put, Dp.tks]
 refine' Dp.tj 11 hS0 ?_
 simp only [Act.put, Dp.tks]
 refine' Dp.tj 12 hS0 ?_
 simp only [Act.put, Dp.tks]
 refine' Dp.tj 13 hS0 ?_
 simp only [Act.put, Dp.tks]
 refine' Dp.tj 14 hS0 ?_
 simp only [Act.put, Dp.tks]
 refine' Dp.tj 15 hS0 ?_
 simp only [Act.put, Dp.tks]
 refine' Dp.tj 16 hS0 ?_
 simp only [Act.put, Dp.tks]
 refine' Dp.tj 17 hS0 ?_
 simp only [Act.put, Dp.tks]
 refine' Dp.tj 18 hS0 ?_
 simp only [Act.put, Dp.tks]
 refine Dp.wpAnyL_one 19 rfl (by kernel_rfl) (by rfl) (fun K hK => ?_)
 go_simp
 refine (progPut s mem i _ p _ hs hi hp1.drew).mono ?_
 rintro e w' ⟨rfl, hr, hk⟩
 refine hK _ _ ⟨fun h => absurd h (Nat.lt_irrefl _), ?_⟩
 clear hK K
 refine Dp.wpAnyL_one 20 rfl (by kernel_rfl) (by rfl) (fun K hK => ?_)
 go_simp
 refine hK _ _ ⟨fun h => absurd h (by decide), ?_⟩
 clear hK K
 refine Dp.wpAnyL_done (by kernel_rfl) ?_ _
 go_wp2
 go_ret
 exact ⟨rfl, hr, (Dp.Keeps.mono (T := fun k => k = p) k1.drew (fun _ _ e => e.elim)).next hk (fun _ _ e => e)⟩
set_option maxRecDepth 100000 in
set_option maxHeartbeats 1000000 in
theorem progAnd (s : Dp.Cs) (mem : Value) (i : Dp.Ins) (p : Nat) (w : World) (hs : s.Ok) (hi : i.Ok) (hp : Dp.Row w p 137 (Dp.coreCells s mem)) :
  Calls Tryz.prog 132 #[.pointer (some ⟨p, 0, none⟩), .agg (Dp.pinsCells i).toArray] w fun e w' => e = .returned (.int .i64 0) ∧ Dp.Row w' p 137 (Dp.coreCells (Dp.putted s i (Dp.bits 4 (s.reg i.b) (s.reg i.c))) mem) ∧ Dp.Keeps (fun k => k = p) w w' := by
 go_enter Tryz.func132, Tryz.ntmps132
 go_wp2_with (refine Dp.wpList_box_row rfl 179 _ rfl (Dp.pinsCells i) rfl ?_)
 intro w1 r1 z1 k1
 have hp1 := hp.keep k1 (fun e => e)
 have q0 : ∀ wx, Dp.Keeps (fun _ => False) w1 wx → wx.cell? ⟨w.heap.size, 0, none⟩ = some (.int .u32 i.op) := fun wx kx => ((r1.keep kx (fun e => e)).pins).1
 have q1 : ∀ wx, Dp.Keeps (fun _ => False) w1 wx → wx.cell? ⟨w.heap.size, 1, none⟩ = some (.int .u32 i.a) := fun wx kx => ((r1.keep kx (fun e => e)).pins).2.1
 have q2 : ∀ wx, Dp.Keeps (fun _ => False) w1 wx → wx.cell? ⟨w.heap.size, 2, none⟩ = some (.int .u32 i.b) := fun wx kx => ((r1.keep kx (fun e => e)).pins).2.2.1
 have q3 : ∀ wx, Dp.Keeps (fun _ => False) w1 wx → wx.cell? ⟨w.heap.size, 3, none⟩ = some (.int .u32 i.c) := fun wx kx => ((r1.keep kx (fun e => e)).pins).2.2.2.1
 have q4 : ∀ wx, Dp.Keeps (fun _ => False) w1 wx → wx.cell? ⟨w.heap.size, 4, none⟩ = some (.int .u32 (Dp.wrap i.n)) := fun wx kx => ((r1.keep kx (fun e => e)).pins).2.2.2.2
 have qb : ∀ wx, Dp.Keeps (fun _ => False) w1 wx → wx.cell? ⟨p, 4 + i.b.toNat, none⟩ = some (.int .u32 (s.reg i.b)) := fun wx kx => (hp1.keep kx (fun e => e)).coreReg hs.len i.b hi.b
 have qc : ∀ wx, Dp.Keeps (fun _ => False) w1 wx → wx.cell? ⟨p, 4 + i.c.toNat, none⟩ = some (.int .u32 (s.reg i.c)) := fun wx kx => (hp1.keep kx (fun e => e)).coreReg hs.len i.c hi.c
 have hib := hi.b
 have hic := hi.c
 have hb := hs.reg i.b
 have hc := hs.reg i.c
 have hnw := Dp.wrap_word i.n
 unfold Dp.isWord at hb hc hnw
 have hS0 : Dp.Keeps (fun _ => False) w1 w1.drew := (Dp.Keeps.refl _ _).drew
 have HV := Hid.mk_ (Dp.bits_and _ _ hb hc)
 go_wp2
 refine Dp.wp_region_L (fun wx => Dp.Keeps (fun _ => False) w1 wx) 19 mixedP ?_
 refine' Dp.tj 0 hS0 ?_
 simp only [Act.put, Dp.tks]
 refine' Dp.tj 1 hS0 ?_
 simp only [Act.put, Dp.tks]
 refine' Dp.tj 2 hS0 ?_
 simp only [Act.put, Dp.tks]
 refine' Dp.tj 3 hS0 ?_
 simp only [Act.put, Dp.tks]
 refine' Dp.tj 4 hS0 ?_
 simp only [Act.put, Dp.tks]
 refine' Dp.tj 5 hS0 ?_
 simp only [Act.put, Dp.tks]
 refine' Dp.tj 6 hS0 ?_
 simp only [Act.put, Dp.tks]
 refine' Dp.tj 7 hS0 ?_
 simp only [Act.put, Dp.tks]
 refine' Dp.tj 8 hS0 ?_
 simp only [Act.put, Dp.tks]
 refine' Dp.tj 9 hS0 ?_
 simp only [Act.put, Dp.tks]
 refine' Dp.tj 10 hS0 ?_
 simp only [Act.put, Dp.tks]
 refine' Dp.tj 11 hS0 ?_
 simp only [Act.put, Dp.tks]
 refine' Dp.tj 12 hS0 ?_
 simp only [Act.put, Dp.tks]
 refine' Dp.tj 13 hS0 ?_
 simp only [Act.put, Dp.tks]
 refine' Dp.tj 14 hS0 ?_
 simp only [Act.put, Dp.tks]
 refine' Dp.tj 15 hS0 ?_
 simp only [Act.put, Dp.tks]
 refine' Dp.tj 16 hS0 ?_
 simp only [Act.put, Dp.tks]
 refine' Dp.tj 17 hS0 ?_
 simp only [Act.put, Dp.tks]
 refine' Dp.tj 18 hS0 ?_
 simp only [Act.put, Dp.tks]
 refine Dp.wpAnyL_one 19 rfl (by kernel_rfl) (by rfl) (fun K hK => ?_)
 go_simp
 refine (progPut s mem i _ p _ hs hi hp1.drew).mono ?_
 rintro e w' ⟨rfl, hr, hk⟩
 refine hK _ _ ⟨fun h => absurd h (Nat.lt_irrefl _), ?_⟩
 clear hK K
 refine Dp.wpAnyL_one 20 rfl (by kernel_rfl) (by rfl) (fun K hK => ?_)
 go_simp
 refine hK _ _ ⟨fun h => absurd h (by decide), ?_⟩
 clear hK K
 refine Dp.wpAnyL_done (by kernel_rfl) ?_ _
 go_wp2
 go_ret
 rw [HV.out.1] at hr
 exact ⟨rfl, hr, (Dp.Keeps.mono (T := fun k => k = p) k1.drew (fun _ _ e => e.elim)).next hk (fun _ _ e => e)⟩
set_option maxRecDepth 100000 in
set_option maxHeartbeats 1000000 in
theorem progOr (s : Dp.Cs) (mem : Value) (i : Dp.Ins) (p : Nat) (w : World) (hs : s.Ok) (hi : i.Ok) (hp : Dp.Row w p 137 (Dp.coreCells s mem)) :
  Calls Tryz.prog 133 #[.pointer (some ⟨p, 0, none⟩), .agg (Dp.pinsCells i).toArray] w fun e w' => e = .returned (.int .i64 0) ∧ Dp.Row w' p 137 (Dp.coreCells (Dp.putted s i (Dp.bits 5 (s.reg i.b) (s.reg i.c))) mem) ∧ Dp.Keeps (fun k => k = p) w w' := by
 go_enter Tryz.func133, Tryz.ntmps133
 go_wp2_with (refine Dp.wpList_box_row rfl 179 _ rfl (Dp.pinsCells i) rfl ?_)
 intro w1 r1 z1 k1
 have hp1 := hp.keep k1 (fun e => e)
 have q0 : ∀ wx, Dp.Keeps (fun _ => False) w1 wx → wx.cell? ⟨w.heap.size, 0, none⟩ = some (.int .u32 i.op) := fun wx kx => ((r1.keep kx (fun e => e)).pins).1
 have q1 : ∀ wx, Dp.Keeps (fun _ => False) w1 wx → wx.cell? ⟨w.heap.size, 1, none⟩ = some (.int .u32 i.a) := fun wx kx => ((r1.keep kx (fun e => e)).pins).2.1
 have q2 : ∀ wx, Dp.Keeps (fun _ => False) w1 wx → wx.cell? ⟨w.heap.size, 2, none⟩ = some (.int .u32 i.b) := fun wx kx => ((r1.keep kx (fun e => e)).pins).2.2.1
 have q3 : ∀ wx, Dp.Keeps (fun _ => False) w1 wx → wx.cell? ⟨w.heap.size, 3, none⟩ = some (.int .u32 i.c) := fun wx kx => ((r1.keep kx (fun e => e)).pins).2.2.2.1
 have q4 : ∀ wx, Dp.Keeps (fun _ => False) w1 wx → wx.cell? ⟨w.heap.size, 4, none⟩ = some (.int .u32 (Dp.wrap i.n)) := fun wx kx => ((r1.keep kx (fun e => e)).pins).2.2.2.2
 have qb : ∀ wx, Dp.Keeps (fun _ => False) w1 wx → wx.cell? ⟨p, 4 + i.b.toNat, none⟩ = some (.int .u32 (s.reg i.b)) := fun wx kx => (hp1.keep kx (fun e => e)).coreReg hs.len i.b hi.b
 have qc : ∀ wx, Dp.Keeps (fun _ => False) w1 wx → wx.cell? ⟨p, 4 + i.c.toNat, none⟩ = some (.int .u32 (s.reg i.c)) := fun wx kx => (hp1.keep kx (fun e => e)).coreReg hs.len i.c hi.c
 have hib := hi.b
 have hic := hi.c
 have hb := hs.reg i.b
 have hc := hs.reg i.c
 have hnw := Dp.wrap_word i.n
 unfold Dp.isWord at hb hc hnw
 have hS0 : Dp.Keeps (fun _ => False) w1 w1.drew := (Dp.Keeps.refl _ _).drew
 have HV := Hid.mk_ (Dp.bits_and _ _ hb hc)
 go_wp2
 refine Dp.wp_region_L (fun wx => Dp.Keeps (fun _ => False) w1 wx) 19 mixedP ?_
 refine' Dp.tj 0 hS0 ?_
 simp only [Act.put, Dp.tks]
 refine' Dp.tj 1 hS0 ?_
 simp only [Act.put, Dp.tks]
 refine' Dp.tj 2 hS0 ?_
 simp only [Act.put, Dp.tks]
 refine' Dp.tj 3 hS0 ?_
 simp only [Act.put, Dp.tks]
 refine' Dp.tj 4 hS0 ?_
 simp only [Act.put, Dp.tks]
 refine' Dp.tj 5 hS0 ?_
 simp only [Act.put, Dp.tks]
 refine' Dp.tj 6 hS0 ?_
 simp only [Act.put, Dp.tks]
 refine' Dp.tj 7 hS0 ?_
 simp only [Act.put, Dp.tks]
 refine' Dp.tj 8 hS0 ?_
 simp only [Act.put, Dp.tks]
 refine' Dp.tj 9 hS0 ?_
 simp only [Act.put, Dp.tks]
 refine' Dp.tj 10 hS0 ?_
 simp only [Act.put, Dp.tks]
 refine' Dp.tj 11 hS0 ?_
 simp only [Act.put, Dp.tks]
 refine' Dp.tj 12 hS0 ?_
 simp only [Act.put, Dp.tks]
 refine' Dp.tj 13 hS0 ?_
 simp only [Act.put, Dp.tks]
 refine' Dp.tj 14 hS0 ?_
 simp only [Act.put, Dp.tks]
 refine' Dp.tj 15 hS0 ?_
 simp only [Act.put, Dp.tks]
 refine' Dp.tj 16 hS0 ?_
 simp only [Act.put, Dp.tks]
 refine' Dp.tj 17 hS0 ?_
 simp only [Act.put, Dp.tks]
 refine' Dp.tj 18 hS0 ?_
 simp only [Act.put, Dp.tks]
 refine Dp.wpAnyL_one 19 rfl (by kernel_rfl) (by rfl) (fun K hK => ?_)
 go_simp
 refine (progPut s mem i _ p _ hs hi hp1.drew).mono ?_
 rintro e w' ⟨rfl, hr, hk⟩
 refine hK _ _ ⟨fun h => absurd h (Nat.lt_irrefl _), ?_⟩
 clear hK K
 refine Dp.wpAnyL_one 20 rfl (by kernel_rfl) (by rfl) (fun K hK => ?_)
 go_simp
 refine hK _ _ ⟨fun h => absurd h (by decide), ?_⟩
 clear hK K
 refine Dp.wpAnyL_done (by kernel_rfl) ?_ _
 go_wp2
 go_ret
 rw [HV.out.2.1] at hr
 exact ⟨rfl, hr, (Dp.Keeps.mono (T := fun k => k = p) k1.drew (fun _ _ e => e.elim)).next hk (fun _ _ e => e)⟩
set_option maxRecDepth 100000 in
set_option maxHeartbeats 1000000 in
theorem progXor (s : Dp.Cs) (mem : Value) (i : Dp.Ins) (p : Nat) (w : World) (hs : s.Ok) (hi : i.Ok) (hp : Dp.Row w p 137 (Dp.coreCells s mem)) :
  Calls Tryz.prog 134 #[.pointer (some ⟨p, 0, none⟩), .agg (Dp.pinsCells i).toArray] w fun e w' => e = .returned (.int .i64 0) ∧ Dp.Row w' p 137 (Dp.coreCells (Dp.putted s i (Dp.bits 6 (s.reg i.b) (s.reg i.c))) mem) ∧ Dp.Keeps (fun k => k = p) w w' := by
 go_enter Tryz.func134, Tryz.ntmps134
 go_wp2_with (refine Dp.wpList_box_row rfl 179 _ rfl (Dp.pinsCells i) rfl ?_)
 intro w1 r1 z1 k1
 have hp1 := hp.keep k1 (fun e => e)
 have q0 : ∀ wx, Dp.Keeps (fun _ => False) w1 wx → wx.cell? ⟨w.heap.size, 0, none⟩ = some (.int .u32 i.op) := fun wx kx => ((r1.keep kx (fun e => e)).pins).1
 have q1 : ∀ wx, Dp.Keeps (fun _ => False) w1 wx → wx.cell? ⟨w.heap.size, 1, none⟩ = some (.int .u32 i.a) := fun wx kx => ((r1.keep kx (fun e => e)).pins).2.1
 have q2 : ∀ wx, Dp.Keeps (fun _ => False) w1 wx → wx.cell? ⟨w.heap.size, 2, none⟩ = some (.int .u32 i.b) := fun wx kx => ((r1.keep kx (fun e => e)).pins).2.2.1
 have q3 : ∀ wx, Dp.Keeps (fun _ => False) w1 wx → wx.cell? ⟨w.heap.size, 3, none⟩ = some (.int .u32 i.c) := fun wx kx => ((r1.keep kx (fun e => e)).pins).2.2.2.1
 have q4 : ∀ wx, Dp.Keeps (fun _ => False) w1 wx → wx.cell? ⟨w.heap.size, 4, none⟩ = some (.int .u32 (Dp.wrap i.n)) := fun wx kx => ((r1.keep kx (fun e => e)).pins).2.2.2.2
 have qb : ∀ wx, Dp.Keeps (fun _ => False) w1 wx → wx.cell? ⟨p, 4 + i.b.toNat, none⟩ = some (.int .u32 (s.reg i.b)) := fun wx kx => (hp1.keep kx (fun e => e)).coreReg hs.len i.b hi.b
 have qc : ∀ wx, Dp.Keeps (fun _ => False) w1 wx → wx.cell? ⟨p, 4 + i.c.toNat, none⟩ = some (.int .u32 (s.reg i.c)) := fun wx kx => (hp1.keep kx (fun e => e)).coreReg hs.len i.c hi.c
 have hib := hi.b
 have hic := hi.c
 have hb := hs.reg i.b
 have hc := hs.reg i.c
 have hnw := Dp.wrap_word i.n
 unfold Dp.isWord at hb hc hnw
 have hS0 : Dp.Keeps (fun _ => False) w1 w1.drew := (Dp.Keeps.refl _ _).drew
 have HV := Hid.mk_ (Dp.bits_and _ _ hb hc)
 go_wp2
 refine Dp.wp_region_L (fun wx => Dp.Keeps (fun _ => False) w1 wx) 19 mixedP ?_
 refine' Dp.tj 0 hS0 ?_
 simp only [Act.put, Dp.tks]
 refine' Dp.tj 1 hS0 ?_
 simp only [Act.put, Dp.tks]
 refine' Dp.tj 2 hS0 ?_
 simp only [Act.put, Dp.tks]
 refine' Dp.tj 3 hS0 ?_
 simp only [Act.put, Dp.tks]
 refine' Dp.tj 4 hS0 ?_
 simp only [Act.put, Dp.tks]
 refine' Dp.tj 5 hS0 ?_
 simp only [Act.put, Dp.tks]
 refine' Dp.tj 6 hS0 ?_
 simp only [Act.put, Dp.tks]
 refine' Dp.tj 7 hS0 ?_
 simp only [Act.put, Dp.tks]
 refine' Dp.tj 8 hS0 ?_
 simp only [Act.put, Dp.tks]
 refine' Dp.tj 9 hS0 ?_
 simp only [Act.put, Dp.tks]
 refine' Dp.tj 10 hS0 ?_
 simp only [Act.put, Dp.tks]
 refine' Dp.tj 11 hS0 ?_
 simp only [Act.put, Dp.tks]
 refine' Dp.tj 12 hS0 ?_
 simp only [Act.put, Dp.tks]
 refine' Dp.tj 13 hS0 ?_
 simp only [Act.put, Dp.tks]
 refine' Dp.tj 14 hS0 ?_
 simp only [Act.put, Dp.tks]
 refine' Dp.tj 15 hS0 ?_
 simp only [Act.put, Dp.tks]
 refine' Dp.tj 16 hS0 ?_
 simp only [Act.put, Dp.tks]
 refine' Dp.tj 17 hS0 ?_
 simp only [Act.put, Dp.tks]
 refine' Dp.tj 18 hS0 ?_
 simp only [Act.put, Dp.tks]
 refine Dp.wpAnyL_one 19 rfl (by kernel_rfl) (by rfl) (fun K hK => ?_)
 go_simp
 refine (progPut s mem i _ p _ hs hi hp1.drew).mono ?_
 rintro e w' ⟨rfl, hr, hk⟩
 refine hK _ _ ⟨fun h => absurd h (Nat.lt_irrefl _), ?_⟩
 clear hK K
 refine Dp.wpAnyL_one 20 rfl (by kernel_rfl) (by rfl) (fun K hK => ?_)
 go_simp
 refine hK _ _ ⟨fun h => absurd h (by decide), ?_⟩
 clear hK K
 refine Dp.wpAnyL_done (by kernel_rfl) ?_ _
 go_wp2
 go_ret
 rw [HV.out.2.2] at hr
 exact ⟨rfl, hr, (Dp.Keeps.mono (T := fun k => k = p) k1.drew (fun _ _ e => e.elim)).next hk (fun _ _ e => e)⟩
set_option maxRecDepth 100000 in
set_option maxHeartbeats 1000000 in
theorem progSet (s : Dp.Cs) (mem : Value) (i : Dp.Ins) (p : Nat) (w : World) (hs : s.Ok) (hi : i.Ok) (hp : Dp.Row w p 137 (Dp.coreCells s mem)) :
  Calls Tryz.prog 139 #[.pointer (some ⟨p, 0, none⟩), .agg (Dp.pinsCells i).toArray] w fun e w' => e = .returned (.int .i64 0) ∧ Dp.Row w' p 137 (Dp.coreCells (Dp.putted s i (Dp.wrap (s.reg i.b + i.n))) mem) ∧ Dp.Keeps (fun k => k = p) w w' := by
 go_enter Tryz.func139, Tryz.ntmps139
 go_wp2_with (refine Dp.wpList_box_row rfl 179 _ rfl (Dp.pinsCells i) rfl ?_)
 intro w1 r1 z1 k1
 have hp1 := hp.keep k1 (fun e => e)
 have q0 : ∀ wx, Dp.Keeps (fun _ => False) w1 wx → wx.cell? ⟨w.heap.size, 0, none⟩ = some (.int .u32 i.op) := fun wx kx => ((r1.keep kx (fun e => e)).pins).1
 have q1 : ∀ wx, Dp.Keeps (fun _ => False) w1 wx → wx.cell? ⟨w.heap.size, 1, none⟩ = some (.int .u32 i.a) := fun wx kx => ((r1.keep kx (fun e => e)).pins).2.1
 have q2 : ∀ wx, Dp.Keeps (fun _ => False) w1 wx → wx.cell? ⟨w.heap.size, 2, none⟩ = some (.int .u32 i.b) := fun wx kx => ((r1.keep kx (fun e => e)).pins).2.2.1
 have q3 : ∀ wx, Dp.Keeps (fun _ => False) w1 wx → wx.cell? ⟨w.heap.size, 3, none⟩ = some (.int .u32 i.c) := fun wx kx => ((r1.keep kx (fun e => e)).pins).2.2.2.1
 have q4 : ∀ wx, Dp.Keeps (fun _ => False) w1 wx → wx.cell? ⟨w.heap.size, 4, none⟩ = some (.int .u32 (Dp.wrap i.n)) := fun wx kx => ((r1.keep kx (fun e => e)).pins).2.2.2.2
 have qb : ∀ wx, Dp.Keeps (fun _ => False) w1 wx → wx.cell? ⟨p, 4 + i.b.toNat, none⟩ = some (.int .u32 (s.reg i.b)) := fun wx kx => (hp1.keep kx (fun e => e)).coreReg hs.len i.b hi.b
 have qc : ∀ wx, Dp.Keeps (fun _ => False) w1 wx → wx.cell? ⟨p, 4 + i.c.toNat, none⟩ = some (.int .u32 (s.reg i.c)) := fun wx kx => (hp1.keep kx (fun e => e)).coreReg hs.len i.c hi.c
 have hib := hi.b
 have hic := hi.c
 have hb := hs.reg i.b
 have hc := hs.reg i.c
 have hnw := Dp.wrap_word i.n
 unfold Dp.isWord at hb hc hnw
 have hS0 : Dp.Keeps (fun _ => False) w1 w1.drew := (Dp.Keeps.refl _ _).drew
 have HV : Hid (IntKind.u32.wrap (s.reg i.b + Dp.wrap i.n) = Dp.wrap (s.reg i.b + i.n)) := by unfold Hid; rw [IntKind.wrap_u32]; unfold Dp.wrap; omega
 go_wp2
 refine Dp.wp_region_L (fun wx => Dp.Keeps (fun _ => False) w1 wx) 13 mixedP ?_
 refine' Dp.tj 0 hS0 ?_
 simp only [Act.put, Dp.tks]
 refine' Dp.tj 1 hS0 ?_
 simp only [Act.put, Dp.tks]
 refine' Dp.tj 2 hS0 ?_
 simp only [Act.put, Dp.tks]
 refine' Dp.tj 3 hS0 ?_
 simp only [Act.put, Dp.tks]
 refine' Dp.tj 4 hS0 ?_
 simp only [Act.put, Dp.tks]
 refine' Dp.tj 5 hS0 ?_
 simp only [Act.put, Dp.tks]
 refine' Dp.tj 6 hS0 ?_
 simp only [Act.put, Dp.tks]
 refine' Dp.tj 7 hS0 ?_
 simp only [Act.put, Dp.tks]
 refine' Dp.tj 8 hS0 ?_
 simp only [Act.put, Dp.tks]
 refine' Dp.tj 9 hS0 ?_
 simp only [Act.put, Dp.tks]
 refine' Dp.tj 10 hS0 ?_
 simp only [Act.put, Dp.tks]
 refine' Dp.tj 11 hS0 ?_
 simp only [Act.put, Dp.tks]
 refine' Dp.tj 12 hS0 ?_
 simp only [Act.put, Dp.tks]
 refine Dp.wpAnyL_one 13 rfl (by kernel_rfl) (by rfl) (fun K hK => ?_)
 go_simp
 refine (progPut s mem i _ p _ hs hi hp1.drew).mono ?_
 rintro e w' ⟨rfl, hr, hk⟩
 refine hK _ _ ⟨fun h => absurd h (Nat.lt_irrefl _), ?_⟩
 clear hK K
 refine Dp.wpAnyL_one 14 rfl (by kernel_rfl) (by rfl) (fun K hK => ?_)
 go_simp
 refine hK _ _ ⟨fun h => absurd h (by decide), ?_⟩
 clear hK K
 refine Dp.wpAnyL_done (by kernel_rfl) ?_ _
 go_wp2
 go_ret
 rw [HV.out] at hr
 exact ⟨rfl, hr, (Dp.Keeps.mono (T := fun k => k = p) k1.drew (fun _ _ e => e.elim)).next hk (fun _ _ e => e)⟩
namespace Dp
def level (cells : List Int) (d : Nat) : List Int := (List.range (256 / 2 ^ d)).map fun k => digest cells (k * 2 ^ d) d
theorem level_length (cells : List Int) (d : Nat) : (level cells d).length = 256 / 2 ^ d := by simp [level]
theorem level_zero_getElem (cells : List Int) (k : Nat) (h : k < (level cells 0).length) : (level cells 0)[k] = sum (0 :: four (cells.getD k 0)) := by
 simp [level, digest]
theorem fill_next (l : List Int) (k : Nat) (hk : k < l.length) (n : Nat) (hn : l.length = n) : (regCells (l.take k) ++ List.replicate (n - k) (Value.int .i64 0)).set k (.int .i64 l[k]) = regCells (l.take (k + 1)) ++ List.replicate (n - (k + 1)) (.int .i64 0) := by
 have h1 : (regCells (l.take k)).length = k := by simp [regCells]; omega
 rw [List.set_append_right _ _ (by omega), h1, Nat.sub_self, List.take_succ_eq_append_getElem hk, show n - k = (n - (k + 1)) + 1 by omega, List.replicate_succ]
 rw [List.set_cons_zero]; unfold regCells; rw [List.map_append, List.append_assoc]; rfl
theorem fill_at (l : List Int) (k : Nat) (n : Nat) (hk : k < n) (hn : l.length = n) : (regCells (l.take k) ++ List.replicate (n - k) (Value.int .i64 0))[k]? = some (.int .i64 0) := by
 have h1 : (regCells (l.take k)).length = k := by simp [regCells]; omega
 rw [List.getElem?_append_right (by omega), h1, Nat.sub_self, show n - k = (n - (k + 1)) + 1 by omega, List.replicate_succ]
 rfl
end Dp
theorem sizeWords : (Tryz.prog.info? 103).map (·.size) = some 256 := by kernel_rfl
set_option maxRecDepth 100000 in
set_option maxHeartbeats 1000000 in
theorem progDigests (w : World) (b o : Nat) (ty : TypeId) (pre post : List Value) (vs : Value) (cells : List Int) (hl : cells.length = 256) (hr : Dp.Row w b ty (pre ++ Dp.memCells vs cells ++ post)) (ho : pre.length = o) (hw : ∀ x ∈ cells, Dp.isWord x) :
  Calls Tryz.prog 74 #[.pointer (some ⟨b, o, none⟩)] w fun e w' => e = .returned (.slice (some ⟨w.heap.size, 0, none⟩) 256 256) ∧ Dp.Row w' w.heap.size 3 (Dp.regCells (Dp.level cells 0)) ∧ Dp.Keeps (fun _ => False) w w' := by
 have hlt := hr.lt
 go_enter Tryz.func74, Tryz.ntmps74
 go_wp2_with (at_make; refine Dp.wpList_make_row _ rfl _ _ 22 rfl 3 (.int .i64 0) 8 Tryz.underlying22 infoInt rfl _ _ _ _ 256 rfl rfl (by omega) (by omega) (by omega) (by simp [maxLen]) ?_)
 intro w1 r1 z1 k1
 have hr1 := hr.keep k1 (fun e => e)
 have HR : Hid (Dp.Row w1 b ty ((pre ++ [vs]) ++ Dp.wordCells cells ++ post)) := by
  unfold Hid; have h := hr1; unfold Dp.memCells at h; simpa using h
 have HL : Hid ((pre ++ [vs]).length = o + 1) := by unfold Hid; simp [ho]
 have HW : Hid ((Dp.wordCells cells).length = 256) := by unfold Hid; simp [Dp.wordCells, hl]
 go_wp2_with (refine Dp.wpList_load_in rfl 103 _ rfl b (o + 1) rfl ty _ _ _ HR.out HL.out _ Tryz.underlying103 rfl (by rw [sizeWords, HW.out]) ?_)
 intro _
 go_wp2
 go_loopw [4, 5, 11] (fun _ _ i wr => ∃ k : Nat, k ≤ 256 ∧ i = .int .i64 k ∧ Dp.Row wr w.heap.size 3 (Dp.regCells ((Dp.level cells 0).take k) ++ List.replicate (256 - k) (.int .i64 0)) ∧ Dp.Keeps (fun _ => False) w wr) (fun _ _ i _ => 256 - (intOf i).toNat)
 case atStart => exact ⟨0, Nat.zero_le _, rfl, r1, k1⟩
 case round =>
  obtain ⟨k, hk, rfl, rr, kr⟩ := hrel
  have hll : (Dp.level cells 0).length = 256 := by rw [Dp.level_length]
  by_cases hk2 : k < 256
  ·have hx : (Dp.wordCells cells).toArray[k]? = some (.int .u32 (cells.getD k 0)) := by
    simp [Dp.wordCells, hl, hk2]
   have hwx : Dp.isWord (cells.getD k 0) := by
    rw [List.getD_eq_getElem?_getD, List.getElem?_eq_getElem (by omega)]; exact hw _ (List.getElem_mem _)
   have hidx : ∀ wx, (Instr.index 103 (.agg (Dp.wordCells cells).toArray) (.int .i64 (k : Int))).run Tryz.prog wx = .ok (.int .u32 (cells.getD k 0)) wx := fun wx => Dp.run_index_one wx 103 97 256 _ k _ (by rfl) (by rfl) (by rfl) hk2 hx
   have HG : Hid ((Dp.level cells 0)[k]'(by omega) = Dp.sum (0 :: Dp.four (cells.getD k 0))) := Dp.level_zero_getElem cells k (by omega)
   have HF := Hid.mk_ (Dp.fill_next (Dp.level cells 0) k (by omega) 256 hll)
   have hsb := Dp.sum_bd (0 :: Dp.four (cells.getD k 0))
   generalize cells.getD k 0 = cx at *
   clear HR hx hr hr1 r1
   go_wp2_with fail
   refine (progDCell cx _ hwx).mono ?_
   rintro e w3 ⟨rfl, k3⟩
   have rr3 := rr.keep k3 (fun e => e)
   have c3 : w3.cell? ⟨w.heap.size, k, none⟩ = some (.int .i64 0) := by rw [rr3.cell]; exact Dp.fill_at _ k 256 hk2 hll
   have f3 := rr3.frozen k
   have HR3 : Hid (Dp.Row (w3.setCell ⟨w.heap.size, k, none⟩ (.int .i64 (Dp.sum (0 :: Dp.four cx)))) w.heap.size 3 (Dp.regCells ((Dp.level cells 0).take (k + 1)) ++ List.replicate (256 - (k + 1)) (.int .i64 0))) := by
    have h := rr3.set k (.int .i64 (Dp.sum (0 :: Dp.four cx)))
    rw [← HG.out, HF.out] at h
    rw [← HG.out]; exact h
   have HK3 : Hid (Dp.Keeps (fun _ => False) w (w3.setCell ⟨w.heap.size, k, none⟩ (.int .i64 (Dp.sum (0 :: Dp.four cx))))) := (kr.trans k3).setCell (p := ⟨w.heap.size, k, none⟩) (.inl (Nat.le_refl _)) _
   generalize Dp.sum (0 :: Dp.four cx) = sx at *
   clear rr rr3 hidx
   go_wp2
   go_roundw
   case rel => exact ⟨k + 1, by omega, by go_num, HR3.out, HK3.out⟩
   case measure => simp [intOf]; omega
  ·obtain rfl : k = 256 := by omega
   have HR : Hid (Dp.Row wr w.heap.size 3 (Dp.regCells (Dp.level cells 0))) := by
    unfold Hid
    have h := rr
    rw [List.take_of_length_le (by omega), Nat.sub_self, List.replicate_zero, List.append_nil] at h
    exact h
   clear rr
   go_wp2
   go_ret
   exact ⟨rfl, HR.out, kr⟩
end Go.Proofs.YtdipojfngdceoaaGreatDoor
