/- Steps on the way: ProgAlu2, ProgCore2. -/
import Derived.Test.YtdipojfngdceoaaGreatDoorShQ04
import Derived.Test.YtdipojfngdceoaaGreatDoorShQ09
import Derived.Test.YtdipojfngdceoaaGreatDoorShQ10
import Derived.Test.YtdipojfngdceoaaGreatDoorProg
import Derived.WalkKit
import Derived.WalkSpells
import Derived.WalkLawsBesides
import Derived.BigQuiet
import Derived.Deep.QuietTactic
namespace Go.Proofs.YtdipojfngdceoaaGreatDoor
open Go.RowKit
set_option maxRecDepth 100000 in
set_option maxHeartbeats 1000000 in
theorem progShl (s : Dp.Cs) (mem : Value) (i : Dp.Ins) (p : Nat) (w : World) (hs : s.Ok) (hi : i.Ok) (hp : Dp.Row w p 137 (Dp.coreCells s mem)) :
  Calls Tryz.prog 135 #[.pointer (some ⟨p, 0, none⟩), .agg (Dp.pinsCells i).toArray] w fun e w' => e = .returned (.int .i64 0) ∧ Dp.Row w' p 137 (Dp.coreCells (Dp.putted s i (Dp.shl (s.reg i.b) (s.reg i.c))) mem) ∧ Dp.Keeps (fun k => k = p) w w' := by
 go_enter Tryz.func135, Tryz.ntmps135
 go_wp2_with (refine Dp.wpList_box_row rfl 179 _ rfl (Dp.pinsCells i) rfl ?_)
 intro w1 r1 z1 k1
 have hp1 := hp.keep k1 (fun e => e)
 have q0 : ∀ wx, Dp.Keeps (fun _ => False) w1 wx → wx.cell? ⟨w.heap.size, 0, none⟩ = some (.int .u32 i.op) := fun wx kx => ((r1.keep kx (fun e => e)).pins).1
 have q1 : ∀ wx, Dp.Keeps (fun _ => False) w1 wx → wx.cell? ⟨w.heap.size, 1, none⟩ = some (.int .u32 i.a) := fun wx kx => ((r1.keep kx (fun e => e)).pins).2.1
 have q2 : ∀ wx, Dp.Keeps (fun _ => False) w1 wx → wx.cell? ⟨w.heap.size, 2, none⟩ = some (.int .u32 i.b) := fun wx kx => ((r1.keep kx (fun e => e)).pins).2.2.1
 have q3 : ∀ wx, Dp.Keeps (fun _ => False) w1 wx → wx.cell? ⟨w.heap.size, 3, none⟩ = some (.int .u32 i.c) := fun wx kx => ((r1.keep kx (fun e => e)).pins).2.2.2.1
 have q4 : ∀ wx, Dp.Keeps (fun _ => False) w1 wx → wx.cell? ⟨w.heap.size, 4, none⟩ = some (.int .u32 (Dp.wrap i.n)) := fun wx kx => ((r1.keep kx (fun e => e)).pins).2.2.2.2
 have qb : ∀ wx, Dp.Keeps (fun _ => False) w1 wx → wx.cell? ⟨p, 4 + i.b.toNat, none⟩ = some (.int .u32 (s.reg i.b)) := fun wx kx => (hp1.keep kx (fun e => e)).coreReg hs.len i.b hi.b
 have qc : ∀ wx, Dp.Keeps (fun _ => False) w1 wx → wx.cell? ⟨p, 4 + i.c.toNat, none⟩ = some (.int .u32 (s.reg i.c)) := fun wx kx => (hp1.keep kx (fun e => e)).coreReg hs.len i.c hi.c
 have hib := hi.b
 have hic := hi.c
 have hb := hs.reg i.b
 have hc := hs.reg i.c
 have hnw := Dp.wrap_word i.n
 unfold Dp.isWord at hb hc hnw
 have hS0 : Dp.Keeps (fun _ => False) w1 w1.drew := (Dp.Keeps.refl _ _).drew
 have hc0 : 0 ≤ (s.reg i.c).tmod 32 := by rw [Int.tmod_eq_emod_of_nonneg hc.1]; omega
 have hc1 : (s.reg i.c).tmod 32 ≤ 32 := by rw [Int.tmod_eq_emod_of_nonneg hc.1]; omega
 have HV : Hid (IntKind.u32.wrap (s.reg i.b * 2 ^ ((s.reg i.c).tmod 32).toNat) = Dp.shl (s.reg i.b) (s.reg i.c)) := by
  unfold Hid Dp.shl; rw [Int.tmod_eq_emod_of_nonneg hc.1, IntKind.wrap_u32]
 go_wp2
 refine Dp.wp_region_L (fun wx => Dp.Keeps (fun _ => False) w1 wx) 20 mixedP ?_
 refine' Dp.tj 0 hS0 ?_
 simp only [Act.put, Dp.tks]
 refine' Dp.tj 1 hS0 ?_
 simp only [Act.put, Dp.tks]
 refine' Dp.tj 2 hS0 ?_
 simp only [Act.put, Dp.tks]
 refine' Dp.tj 3 hS0 ?_
 simp only [Act.put, Dp.tks]
 refine' Dp.tj 4 hS0 ?_
 simp only [Act.put, Dp.tks]
 refine' Dp.tj 5 hS0 ?_
 simp only [Act.put, Dp.tks]
 refine' Dp.tj 6 hS0 ?_
 simp only [Act.put, Dp.tks]
 refine' Dp.tj 7 hS0 ?_
 simp only [Act.put, Dp.tks]
 refine' Dp.tj 8 hS0 ?_
 simp only [Act.put, Dp.tks]
 refine' Dp.tj 9 hS0 ?_
 simp only [Act.put, Dp.tks]
 refine' Dp.tj 10 hS0 ?_
 simp only [Act.put, Dp.tks]
 refine' Dp.tj 11 hS0 ?_
 simp only [Act.put, Dp.tks]
 refine' Dp.tj 12 hS0 ?_
 simp only [Act.put, Dp.tks]
 refine' Dp.tj 13 hS0 ?_
 simp only [Act.put, Dp.tks]
 refine' Dp.tj 14 hS0 ?_
 simp only [Act.put, Dp.tks]
 refine' Dp.tj 15 hS0 ?_
 simp only [Act.put, Dp.tks]
 refine' Dp.tj 16 hS0 ?_
 simp only [Act.put, Dp.tks]
 refine' Dp.tj 17 hS0 ?_
 simp only [Act.put, Dp.tks]
 refine' Dp.tj 18 hS0 ?_
 simp only [Act.put, Dp.tks]
 refine' Dp.tj 19 hS0 ?_
 simp only [Act.put, Dp.tks]
 refine Dp.wpAnyL_one 20 rfl (by kernel_rfl) (by rfl) (fun K hK => ?_)
 go_simp
 refine (progPut s mem i _ p _ hs hi hp1.drew).mono ?_
 rintro e w' ⟨rfl, hr, hk⟩
 refine hK _ _ ⟨fun h => absurd h (Nat.lt_irrefl _), ?_⟩
 clear hK K
 refine Dp.wpAnyL_one 21 rfl (by kernel_rfl) (by rfl) (fun K hK => ?_)
 go_simp
 refine hK _ _ ⟨fun h => absurd h (by decide), ?_⟩
 clear hK K
 refine Dp.wpAnyL_done (by kernel_rfl) ?_ _
 go_wp2
 go_ret
 rw [HV.out] at hr
 exact ⟨rfl, hr, (Dp.Keeps.mono (T := fun k => k = p) k1.drew (fun _ _ e => e.elim)).next hk (fun _ _ e => e)⟩
set_option maxRecDepth 100000 in
set_option maxHeartbeats 1000000 in
theorem progShr (s : Dp.Cs) (mem : Value) (i : Dp.Ins) (p : Nat) (w : World) (hs : s.Ok) (hi : i.Ok) (hp : Dp.Row w p 137 (Dp.coreCells s mem)) :
  Calls Tryz.prog 136 #[.pointer (some ⟨p, 0, none⟩), .agg (Dp.pinsCells i).toArray] w fun e w' => e = .returned (.int .i64 0) ∧ Dp.Row w' p 137 (Dp.coreCells (Dp.putted s i (Dp.shr (s.reg i.b) (s.reg i.c))) mem) ∧ Dp.Keeps (fun k => k = p) w w' := by
 go_enter Tryz.func136, Tryz.ntmps136
 go_wp2_with (refine Dp.wpList_box_row rfl 179 _ rfl (Dp.pinsCells i) rfl ?_)
 intro w1 r1 z1 k1
 have hp1 := hp.keep k1 (fun e => e)
 have q0 : ∀ wx, Dp.Keeps (fun _ => False) w1 wx → wx.cell? ⟨w.heap.size, 0, none⟩ = some (.int .u32 i.op) := fun wx kx => ((r1.keep kx (fun e => e)).pins).1
 have q1 : ∀ wx, Dp.Keeps (fun _ => False) w1 wx → wx.cell? ⟨w.heap.size, 1, none⟩ = some (.int .u32 i.a) := fun wx kx => ((r1.keep kx (fun e => e)).pins).2.1
 have q2 : ∀ wx, Dp.Keeps (fun _ => False) w1 wx → wx.cell? ⟨w.heap.size, 2, none⟩ = some (.int .u32 i.b) := fun wx kx => ((r1.keep kx (fun e => e)).pins).2.2.1
 have q3 : ∀ wx, Dp.Keeps (fun _ => False) w1 wx → wx.cell? ⟨w.heap.size, 3, none⟩ = some (.int .u32 i.c) := fun wx kx => ((r1.keep kx (fun e => e)).pins).2.2.2.1
 have q4 : ∀ wx, Dp.Keeps (fun _ => False) w1 wx → wx.cell? ⟨w.heap.size, 4, none⟩ = some (.int .u32 (Dp.wrap i.n)) := fun wx kx => ((r1.keep kx (fun e => e)).pins).2.2.2.2
 have qb : ∀ wx, Dp.Keeps (fun _ => False) w1 wx → wx.cell? ⟨p, 4 + i.b.toNat, none⟩ = some (.int .u32 (s.reg i.b)) := fun wx kx => (hp1.keep kx (fun e => e)).coreReg hs.len i.b hi.b
 have qc : ∀ wx, Dp.Keeps (fun _ => False) w1 wx → wx.cell? ⟨p, 4 + i.c.toNat, none⟩ = some (.int .u32 (s.reg i.c)) := fun wx kx => (hp1.keep kx (fun e => e)).coreReg hs.len i.c hi.c
 have hib := hi.b
 have hic := hi.c
 have hb := hs.reg i.b
 have hc := hs.reg i.c
 have hnw := Dp.wrap_word i.n
 unfold Dp.isWord at hb hc hnw
 have hS0 : Dp.Keeps (fun _ => False) w1 w1.drew := (Dp.Keeps.refl _ _).drew
 have hc0 : 0 ≤ (s.reg i.c).tmod 32 := by rw [Int.tmod_eq_emod_of_nonneg hc.1]; omega
 have hc1 : (s.reg i.c).tmod 32 ≤ 32 := by rw [Int.tmod_eq_emod_of_nonneg hc.1]; omega
 have HV : Hid (s.reg i.b / 2 ^ ((s.reg i.c).tmod 32).toNat = Dp.shr (s.reg i.b) (s.reg i.c)) := by
  unfold Hid Dp.shr; rw [Int.tmod_eq_emod_of_nonneg hc.1]
 go_wp2
 refine Dp.wp_region_L (fun wx => Dp.Keeps (fun _ => False) w1 wx) 20 mixedP ?_
 refine' Dp.tj 0 hS0 ?_
 simp only [Act.put, Dp.tks]
 refine' Dp.tj 1 hS0 ?_
 simp only [Act.put, Dp.tks]
 refine' Dp.tj 2 hS0 ?_
 simp only [Act.put, Dp.tks]
 refine' Dp.tj 3 hS0 ?_
 simp only [Act.put, Dp.tks]
 refine' Dp.tj 4 hS0 ?_
 simp only [Act.put, Dp.tks]
 refine' Dp.tj 5 hS0 ?_
 simp only [Act.put, Dp.tks]
 refine' Dp.tj 6 hS0 ?_
 simp only [Act.put, Dp.tks]
 refine' Dp.tj 7 hS0 ?_
 simp only [Act.put, Dp.tks]
 refine' Dp.tj 8 hS0 ?_
 simp only [Act.put, Dp.tks]
 refine' Dp.tj 9 hS0 ?_
 simp only [Act.put, Dp.tks]
 refine' Dp.tj 10 hS0 ?_
 simp only [Act.put, Dp.tks]
 refine' Dp.tj 11 hS0 ?_
 simp only [Act.put, Dp.tks]
 refine' Dp.tj 12 hS0 ?_
 simp only [Act.put, Dp.tks]
 refine' Dp.tj 13 hS0 ?_
 simp only [Act.put, Dp.tks]
 refine' Dp.tj 14 hS0 ?_
 simp only [Act.put, Dp.tks]
 refine' Dp.tj 15 hS0 ?_
 simp only [Act.put, Dp.tks]
 refine' Dp.tj 16 hS0 ?_
 simp only [Act.put, Dp.tks]
 refine' Dp.tj 17 hS0 ?_
 simp only [Act.put, Dp.tks]
 refine' Dp.tj 18 hS0 ?_
 simp only [Act.put, Dp.tks]
 refine' Dp.tj 19 hS0 ?_
 simp only [Act.put, Dp.tks]
 refine Dp.wpAnyL_one 20 rfl (by kernel_rfl) (by rfl) (fun K hK => ?_)
 go_simp
 refine (progPut s mem i _ p _ hs hi hp1.drew).mono ?_
 rintro e w' ⟨rfl, hr, hk⟩
 refine hK _ _ ⟨fun h => absurd h (Nat.lt_irrefl _), ?_⟩
 clear hK K
 refine Dp.wpAnyL_one 21 rfl (by kernel_rfl) (by rfl) (fun K hK => ?_)
 go_simp
 refine hK _ _ ⟨fun h => absurd h (by decide), ?_⟩
 clear hK K
 refine Dp.wpAnyL_done (by kernel_rfl) ?_ _
 go_wp2
 go_ret
 rw [HV.out] at hr
 exact ⟨rfl, hr, (Dp.Keeps.mono (T := fun k => k = p) k1.drew (fun _ _ e => e.elim)).next hk (fun _ _ e => e)⟩
set_option maxRecDepth 100000 in
set_option maxHeartbeats 1000000 in
theorem progSame (s : Dp.Cs) (mem : Value) (i : Dp.Ins) (p : Nat) (w : World) (hs : s.Ok) (hi : i.Ok) (hp : Dp.Row w p 137 (Dp.coreCells s mem)) :
  Calls Tryz.prog 143 #[.pointer (some ⟨p, 0, none⟩), .agg (Dp.pinsCells i).toArray] w fun e w' => e = .returned (.int .i64 0) ∧ Dp.Row w' p 137 (Dp.coreCells (Dp.jumped s i (s.reg i.a == s.reg i.b)) mem) ∧ Dp.Keeps (fun k => k = p) w w' := by
 go_enter Tryz.func143, Tryz.ntmps143
 go_wp2_with (refine Dp.wpList_box_row rfl 179 _ rfl (Dp.pinsCells i) rfl ?_)
 intro w1 r1 z1 k1
 have hp1 := hp.keep k1 (fun e => e)
 have q0 : ∀ wx, Dp.Keeps (fun _ => False) w1 wx → wx.cell? ⟨w.heap.size, 0, none⟩ = some (.int .u32 i.op) := fun wx kx => ((r1.keep kx (fun e => e)).pins).1
 have q1 : ∀ wx, Dp.Keeps (fun _ => False) w1 wx → wx.cell? ⟨w.heap.size, 1, none⟩ = some (.int .u32 i.a) := fun wx kx => ((r1.keep kx (fun e => e)).pins).2.1
 have q2 : ∀ wx, Dp.Keeps (fun _ => False) w1 wx → wx.cell? ⟨w.heap.size, 2, none⟩ = some (.int .u32 i.b) := fun wx kx => ((r1.keep kx (fun e => e)).pins).2.2.1
 have q3 : ∀ wx, Dp.Keeps (fun _ => False) w1 wx → wx.cell? ⟨w.heap.size, 3, none⟩ = some (.int .u32 i.c) := fun wx kx => ((r1.keep kx (fun e => e)).pins).2.2.2.1
 have q4 : ∀ wx, Dp.Keeps (fun _ => False) w1 wx → wx.cell? ⟨w.heap.size, 4, none⟩ = some (.int .u32 (Dp.wrap i.n)) := fun wx kx => ((r1.keep kx (fun e => e)).pins).2.2.2.2
 have qb : ∀ wx, Dp.Keeps (fun _ => False) w1 wx → wx.cell? ⟨p, 4 + i.b.toNat, none⟩ = some (.int .u32 (s.reg i.b)) := fun wx kx => (hp1.keep kx (fun e => e)).coreReg hs.len i.b hi.b
 have qc : ∀ wx, Dp.Keeps (fun _ => False) w1 wx → wx.cell? ⟨p, 4 + i.a.toNat, none⟩ = some (.int .u32 (s.reg i.a)) := fun wx kx => (hp1.keep kx (fun e => e)).coreReg hs.len i.a hi.a
 have hib := hi.b
 have hic := hi.a
 have hb := hs.reg i.b
 have hc := hs.reg i.c
 have hnw := Dp.wrap_word i.n
 unfold Dp.isWord at hb hc hnw
 have hS0 : Dp.Keeps (fun _ => False) w1 w1.drew := (Dp.Keeps.refl _ _).drew
 go_wp2
 refine Dp.wp_region_L (fun wx => Dp.Keeps (fun _ => False) w1 wx) 19 mixedP ?_
 refine' Dp.tj 0 hS0 ?_
 simp only [Act.put, Dp.tks]
 refine' Dp.tj 1 hS0 ?_
 simp only [Act.put, Dp.tks]
 refine' Dp.tj 2 hS0 ?_
 simp only [Act.put, Dp.tks]
 refine' Dp.tj 3 hS0 ?_
 simp only [Act.put, Dp.tks]
 refine' Dp.tj 4 hS0 ?_
 simp only [Act.put, Dp.tks]
 refine' Dp.tj 5 hS0 ?_
 simp only [Act.put, Dp.tks]
 refine' Dp.tj 6 hS0 ?_
 simp only [Act.put, Dp.tks]
 refine' Dp.tj 7 hS0 ?_
 simp only [Act.put, Dp.tks]
 refine' Dp.tj 8 hS0 ?_
 simp only [Act.put, Dp.tks]
 refine' Dp.tj 9 hS0 ?_
 simp only [Act.put, Dp.tks]
 refine' Dp.tj 10 hS0 ?_
 simp only [Act.put, Dp.tks]
 refine' Dp.tj 11 hS0 ?_
 simp only [Act.put, Dp.tks]
 refine' Dp.tj 12 hS0 ?_
 simp only [Act.put, Dp.tks]
 refine' Dp.tj 13 hS0 ?_
 simp only [Act.put, Dp.tks]
 refine' Dp.tj 14 hS0 ?_
 simp only [Act.put, Dp.tks]
 refine' Dp.tj 15 hS0 ?_
 simp only [Act.put, Dp.tks]
 refine' Dp.tj 16 hS0 ?_
 simp only [Act.put, Dp.tks]
 refine' Dp.tj 17 hS0 ?_
 simp only [Act.put, Dp.tks]
 refine' Dp.tj 18 hS0 ?_
 simp only [Act.put, Dp.tks]
 refine Dp.wpAnyL_one 19 rfl (by kernel_rfl) (by rfl) (fun K hK => ?_)
 go_simp
 refine (progJump s mem i _ p _ hs hp1.drew).mono ?_
 rintro e w' ⟨rfl, hr, hk⟩
 refine hK _ _ ⟨fun h => absurd h (Nat.lt_irrefl _), ?_⟩
 clear hK K
 refine Dp.wpAnyL_one 20 rfl (by kernel_rfl) (by rfl) (fun K hK => ?_)
 go_simp
 refine hK _ _ ⟨fun h => absurd h (by decide), ?_⟩
 clear hK K
 refine Dp.wpAnyL_done (by kernel_rfl) ?_ _
 go_wp2
 go_ret
 exact ⟨rfl, hr, (Dp.Keeps.mono (T := fun k => k = p) k1.drew (fun _ _ e => e.elim)).next hk (fun _ _ e => e)⟩
set_option maxRecDepth 100000 in
set_option maxHeartbeats 1000000 in
theorem progOther (s : Dp.Cs) (mem : Value) (i : Dp.Ins) (p : Nat) (w : World) (hs : s.Ok) (hi : i.Ok) (hp : Dp.Row w p 137 (Dp.coreCells s mem)) :
  Calls Tryz.prog 144 #[.pointer (some ⟨p, 0, none⟩), .agg (Dp.pinsCells i).toArray] w fun e w' => e = .returned (.int .i64 0) ∧ Dp.Row w' p 137 (Dp.coreCells (Dp.jumped s i (s.reg i.a != s.reg i.b)) mem) ∧ Dp.Keeps (fun k => k = p) w w' := by
 go_enter Tryz.func144, Tryz.ntmps144
 go_wp2_with (refine Dp.wpList_box_row rfl 179 _ rfl (Dp.pinsCells i) rfl ?_)
 intro w1 r1 z1 k1
 have hp1 := hp.keep k1 (fun e => e)
 have q0 : ∀ wx, Dp.Keeps (fun _ => False) w1 wx → wx.cell? ⟨w.heap.size, 0, none⟩ = some (.int .u32 i.op) := fun wx kx => ((r1.keep kx (fun e => e)).pins).1
 have q1 : ∀ wx, Dp.Keeps (fun _ => False) w1 wx → wx.cell? ⟨w.heap.size, 1, none⟩ = some (.int .u32 i.a) := fun wx kx => ((r1.keep kx (fun e => e)).pins).2.1
 have q2 : ∀ wx, Dp.Keeps (fun _ => False) w1 wx → wx.cell? ⟨w.heap.size, 2, none⟩ = some (.int .u32 i.b) := fun wx kx => ((r1.keep kx (fun e => e)).pins).2.2.1
 have q3 : ∀ wx, Dp.Keeps (fun _ => False) w1 wx → wx.cell? ⟨w.heap.size, 3, none⟩ = some (.int .u32 i.c) := fun wx kx => ((r1.keep kx (fun e => e)).pins).2.2.2.1
 have q4 : ∀ wx, Dp.Keeps (fun _ => False) w1 wx → wx.cell? ⟨w.heap.size, 4, none⟩ = some (.int .u32 (Dp.wrap i.n)) := fun wx kx => ((r1.keep kx (fun e => e)).pins).2.2.2.2
 have qb : ∀ wx, Dp.Keeps (fun _ => False) w1 wx → wx.cell? ⟨p, 4 + i.b.toNat, none⟩ = some (.int .u32 (s.reg i.b)) := fun wx kx => (hp1.keep kx (fun e => e)).coreReg hs.len i.b hi.b
 have qc : ∀ wx, Dp.Keeps (fun _ => False) w1 wx → wx.cell? ⟨p, 4 + i.a.toNat, none⟩ = some (.int .u32 (s.reg i.a)) := fun wx kx => (hp1.keep kx (fun e => e)).coreReg hs.len i.a hi.a
 have hib := hi.b
 have hic := hi.a
 have hb := hs.reg i.b
 have hc := hs.reg i.c
 have hnw := Dp.wrap_word i.n
 unfold Dp.isWord at hb hc hnw
 have hS0 : Dp.Keeps (fun _ => False) w1 w1.drew := (Dp.Keeps.refl _ _).drew
 go_wp2
 refine Dp.wp_region_L (fun wx => Dp.Keeps (fun _ => False) w1 wx) 19 mixedP ?_
 refine' Dp.tj 0 hS0 ?_
 simp only [Act.put, Dp.tks]
 refine' Dp.tj 1 hS0 ?_
 simp only [Act.put, Dp.tks]
 refine' Dp.tj 2 hS0 ?_
 simp only [Act.put, Dp.tks]
 refine' Dp.tj 3 hS0 ?_
 simp only [Act.put, Dp.tks]
 refine' Dp.tj 4 hS0 ?_
 simp only [Act.put, Dp.tks]
 refine' Dp.tj 5 hS0 ?_
 simp only [Act.put, Dp.tks]
 refine' Dp.tj 6 hS0 ?_
 simp only [Act.put, Dp.tks]
 refine' Dp.tj 7 hS0 ?_
 simp only [Act.put, Dp.tks]
 refine' Dp.tj 8 hS0 ?_
 simp only [Act.put, Dp.tks]
 refine' Dp.tj 9 hS0 ?_
 simp only [Act.put, Dp.tks]
 refine' Dp.tj 10 hS0 ?_
 simp only [Act.put, Dp.tks]
 refine' Dp.tj 11 hS0 ?_
 simp only [Act.put, Dp.tks]
 refine' Dp.tj 12 hS0 ?_
 simp only [Act.put, Dp.tks]
 refine' Dp.tj 13 hS0 ?_
 simp only [Act.put, Dp.tks]
 refine' Dp.tj 14 hS0 ?_
 simp only [Act.put, Dp.tks]
 refine' Dp.tj 15 hS0 ?_
 simp only [Act.put, Dp.tks]
 refine' Dp.tj 16 hS0 ?_
 simp only [Act.put, Dp.tks]
 refine' Dp.tj 17 hS0 ?_
 simp only [Act.put, Dp.tks]
 refine' Dp.tj 18 hS0 ?_
 simp only [Act.put, Dp.tks]
 refine Dp.wpAnyL_one 19 rfl (by kernel_rfl) (by rfl) (fun K hK => ?_)
 go_simp
 refine (progJump s mem i _ p _ hs hp1.drew).mono ?_
 rintro e w' ⟨rfl, hr, hk⟩
 refine hK _ _ ⟨fun h => absurd h (Nat.lt_irrefl _), ?_⟩
 clear hK K
 refine Dp.wpAnyL_one 20 rfl (by kernel_rfl) (by rfl) (fun K hK => ?_)
 go_simp
 refine hK _ _ ⟨fun h => absurd h (by decide), ?_⟩
 clear hK K
 refine Dp.wpAnyL_done (by kernel_rfl) ?_ _
 go_wp2
 go_ret
 exact ⟨rfl, hr, (Dp.Keeps.mono (T := fun k => k = p) k1.drew (fun _ _ e => e.elim)).next hk (fun _ _ e => e)⟩
set_option maxRecDepth 100000 in
set_option maxHeartbeats 1000000 in
theorem progUnder (s : Dp.Cs) (mem : Value) (i : Dp.Ins) (p : Nat) (w : World) (hs : s.Ok) (hi : i.Ok) (hp : Dp.Row w p 137 (Dp.coreCells s mem)) :
  Calls Tryz.prog 145 #[.pointer (some ⟨p, 0, none⟩), .agg (Dp.pinsCells i).toArray] w fun e w' => e = .returned (.int .i64 0) ∧ Dp.Row w' p 137 (Dp.coreCells (Dp.jumped s i (s.reg i.a < s.reg i.b)) mem) ∧ Dp.Keeps (fun k => k = p) w w' := by
 go_enter Tryz.func145, Tryz.ntmps145
 go_wp2_with (refine Dp.wpList_box_row rfl 179 _ rfl (Dp.pinsCells i) rfl ?_)
 intro w1 r1 z1 k1
 have hp1 := hp.keep k1 (fun e => e)
 have q0 : ∀ wx, Dp.Keeps (fun _ => False) w1 wx → wx.cell? ⟨w.heap.size, 0, none⟩ = some (.int .u32 i.op) := fun wx kx => ((r1.keep kx (fun e => e)).pins).1
 have q1 : ∀ wx, Dp.Keeps (fun _ => False) w1 wx → wx.cell? ⟨w.heap.size, 1, none⟩ = some (.int .u32 i.a) := fun wx kx => ((r1.keep kx (fun e => e)).pins).2.1
 have q2 : ∀ wx, Dp.Keeps (fun _ => False) w1 wx → wx.cell? ⟨w.heap.size, 2, none⟩ = some (.int .u32 i.b) := fun wx kx => ((r1.keep kx (fun e => e)).pins).2.2.1
 have q3 : ∀ wx, Dp.Keeps (fun _ => False) w1 wx → wx.cell? ⟨w.heap.size, 3, none⟩ = some (.int .u32 i.c) := fun wx kx => ((r1.keep kx (fun e => e)).pins).2.2.2.1
 have q4 : ∀ wx, Dp.Keeps (fun _ => False) w1 wx → wx.cell? ⟨w.heap.size, 4, none⟩ = some (.int .u32 (Dp.wrap i.n)) := fun wx kx => ((r1.keep kx (fun e => e)).pins).2.2.2.2
 have qb : ∀ wx, Dp.Keeps (fun _ => False) w1 wx → wx.cell? ⟨p, 4 + i.b.toNat, none⟩ = some (.int .u32 (s.reg i.b)) := fun wx kx => (hp1.keep kx (fun e => e)).coreReg hs.len i.b hi.b
 have qc : ∀ wx, Dp.Keeps (fun _ => False) w1 wx → wx.cell? ⟨p, 4 + i.a.toNat, none⟩ = some (.int .u32 (s.reg i.a)) := fun wx kx => (hp1.keep kx (fun e => e)).coreReg hs.len i.a hi.a
 have hib := hi.b
 have hic := hi.a
 have hb := hs.reg i.b
 have hc := hs.reg i.c
 have hnw := Dp.wrap_word i.n
 unfold Dp.isWord at hb hc hnw
 have hS0 : Dp.Keeps (fun _ => False) w1 w1.drew := (Dp.Keeps.refl _ _).drew
 go_wp2
 refine Dp.wp_region_L (fun wx => Dp.Keeps (fun _ => False) w1 wx) 19 mixedP ?_
 refine' Dp.tj 0 hS0 ?_
 simp only [Act.put, Dp.tks]
 refine' Dp.tj 1 hS0 ?_
 simp only [Act.put, Dp.tks]
 refine' Dp.tj 2 hS0 ?_
 simp only [Act.put, Dp.tks]
 refine' Dp.tj 3 hS0 ?_
 simp only [Act.put, Dp.tks]
 refine' Dp.tj 4 hS0 ?_
 simp only [Act.put, Dp.tks]
 refine' Dp.tj 5 hS0 ?_
 simp only [Act.put, Dp.tks]
 refine' Dp.tj 6 hS0 ?_
 simp only [Act.put, Dp.tks]
 refine' Dp.tj 7 hS0 ?_
 simp only [Act.put, Dp.tks]
 refine' Dp.tj 8 hS0 ?_
 simp only [Act.put, Dp.tks]
 refine' Dp.tj 9 hS0 ?_
 simp only [Act.put, Dp.tks]
 refine' Dp.tj 10 hS0 ?_
 simp only [Act.put, Dp.tks]
 refine' Dp.tj 11 hS0 ?_
 simp only [Act.put, Dp.tks]
 refine' Dp.tj 12 hS0 ?_
 simp only [Act.put, Dp.tks]
 refine' Dp.tj 13 hS0 ?_
 simp only [Act.put, Dp.tks]
 refine' Dp.tj 14 hS0 ?_
 simp only [Act.put, Dp.tks]
 refine' Dp.tj 15 hS0 ?_
 simp only [Act.put, Dp.tks]
 refine' Dp.tj 16 hS0 ?_
 simp only [Act.put, Dp.tks]
 refine' Dp.tj 17 hS0 ?_
 simp only [Act.put, Dp.tks]
 refine' Dp.tj 18 hS0 ?_
 simp only [Act.put, Dp.tks]
 refine Dp.wpAnyL_one 19 rfl (by kernel_rfl) (by rfl) (fun K hK => ?_)
 go_simp
 refine (progJump s mem i _ p _ hs hp1.drew).mono ?_
 rintro e w' ⟨rfl, hr, hk⟩
 refine hK _ _ ⟨fun h => absurd h (Nat.lt_irrefl _), ?_⟩
 clear hK K
 refine Dp.wpAnyL_one 20 rfl (by kernel_rfl) (by rfl) (fun K hK => ?_)
 go_simp
 refine hK _ _ ⟨fun h => absurd h (by decide), ?_⟩
 clear hK K
 refine Dp.wpAnyL_done (by kernel_rfl) ?_ _
 go_wp2
 go_ret
 exact ⟨rfl, hr, (Dp.Keeps.mono (T := fun k => k = p) k1.drew (fun _ _ e => e.elim)).next hk (fun _ _ e => e)⟩
set_option maxRecDepth 100000 in
set_option maxHeartbeats 1000000 in
theorem progLess (s : Dp.Cs) (mem : Value) (i : Dp.Ins) (p : Nat) (w : World) (hs : s.Ok) (hi : i.Ok) (hp : Dp.Row w p 137 (Dp.coreCells s mem)) :
  Calls Tryz.prog 137 #[.pointer (some ⟨p, 0, none⟩), .agg (Dp.pinsCells i).toArray] w fun e w' => e = .returned (.int .i64 0) ∧ Dp.Row w' p 137 (Dp.coreCells (Dp.putted s i (Dp.one (decide (Dp.signed (s.reg i.b) < Dp.signed (s.reg i.c))))) mem) ∧ Dp.Keeps (fun k => k = p) w w' := by
 go_enter Tryz.func137, Tryz.ntmps137
 go_wp2_with (refine Dp.wpList_box_row rfl 179 _ rfl (Dp.pinsCells i) rfl ?_)
 intro w1 r1 z1 k1
 have hp1 := hp.keep k1 (fun e => e)
 have q0 : ∀ wx, Dp.Keeps (fun _ => False) w1 wx → wx.cell? ⟨w.heap.size, 0, none⟩ = some (.int .u32 i.op) := fun wx kx => ((r1.keep kx (fun e => e)).pins).1
 have q1 : ∀ wx, Dp.Keeps (fun _ => False) w1 wx → wx.cell? ⟨w.heap.size, 1, none⟩ = some (.int .u32 i.a) := fun wx kx => ((r1.keep kx (fun e => e)).pins).2.1
 have q2 : ∀ wx, Dp.Keeps (fun _ => False) w1 wx → wx.cell? ⟨w.heap.size, 2, none⟩ = some (.int .u32 i.b) := fun wx kx => ((r1.keep kx (fun e => e)).pins).2.2.1
 have q3 : ∀ wx, Dp.Keeps (fun _ => False) w1 wx → wx.cell? ⟨w.heap.size, 3, none⟩ = some (.int .u32 i.c) := fun wx kx => ((r1.keep kx (fun e => e)).pins).2.2.2.1
 have q4 : ∀ wx, Dp.Keeps (fun _ => False) w1 wx → wx.cell? ⟨w.heap.size, 4, none⟩ = some (.int .u32 (Dp.wrap i.n)) := fun wx kx => ((r1.keep kx (fun e => e)).pins).2.2.2.2
 have qb : ∀ wx, Dp.Keeps (fun _ => False) w1 wx → wx.cell? ⟨p, 4 + i.b.toNat, none⟩ = some (.int .u32 (s.reg i.b)) := fun wx kx => (hp1.keep kx (fun e => e)).coreReg hs.len i.b hi.b
 have qc : ∀ wx, Dp.Keeps (fun _ => False) w1 wx → wx.cell? ⟨p, 4 + i.c.toNat, none⟩ = some (.int .u32 (s.reg i.c)) := fun wx kx => (hp1.keep kx (fun e => e)).coreReg hs.len i.c hi.c
 have hib := hi.b
 have hic := hi.c
 have hb := hs.reg i.b
 have hc := hs.reg i.c
 have hnw := Dp.wrap_word i.n
 unfold Dp.isWord at hb hc hnw
 have hS0 : Dp.Keeps (fun _ => False) w1 w1.drew := (Dp.Keeps.refl _ _).drew
 have HV : Hid (decide (IntKind.i32.wrap (s.reg i.b) < IntKind.i32.wrap (s.reg i.c)) = decide (Dp.signed (s.reg i.b) < Dp.signed (s.reg i.c))) := by
  have e1 : ∀ x : Int, 0 ≤ x ∧ x < 4294967296 → IntKind.i32.wrap x = Dp.signed x := by intro x hx; rw [IntKind.wrap_i32]; unfold Dp.signed; split <;> omega
  unfold Hid; rw [e1 _ hb, e1 _ hc]
 go_wp2
 refine Dp.wp_region_L (fun wx => Dp.Keeps (fun _ => False) w1 wx) 22 mixedP ?_
 refine' Dp.tj 0 hS0 ?_
 simp only [Act.put, Dp.tks]
 refine' Dp.tj 1 hS0 ?_
 simp only [Act.put, Dp.tks]
 refine' Dp.tj 2 hS0 ?_
 simp only [Act.put, Dp.tks]
 refine' Dp.tj 3 hS0 ?_
 simp only [Act.put, Dp.tks]
 refine' Dp.tj 4 hS0 ?_
 simp only [Act.put, Dp.tks]
 refine' Dp.tj 5 hS0 ?_
 simp only [Act.put, Dp.tks]
 refine' Dp.tj 6 hS0 ?_
 simp only [Act.put, Dp.tks]
 refine' Dp.tj 7 hS0 ?_
 simp only [Act.put, Dp.tks]
 refine' Dp.tj 8 hS0 ?_
 simp only [Act.put, Dp.tks]
 refine' Dp.tj 9 hS0 ?_
 simp only [Act.put, Dp.tks]
 refine' Dp.tj 10 hS0 ?_
 simp only [Act.put, Dp.tks]
 refine' Dp.tj 11 hS0 ?_
 simp only [Act.put, Dp.tks]
 refine' Dp.tj 12 hS0 ?_
 simp only [Act.put, Dp.tks]
 refine' Dp.tj 13 hS0 ?_
 simp only [Act.put, Dp.tks]
 refine' Dp.tj 14 hS0 ?_
 simp only [Act.put, Dp.tks]
 refine' Dp.tj 15 hS0 ?_
 simp only [Act.put, Dp.tks]
 refine' Dp.tj 16 hS0 ?_
 simp only [Act.put, Dp.tks]
 refine' Dp.tj 17 hS0 ?_
 simp only [Act.put, Dp.tks]
 refine' Dp.tj 18 hS0 ?_
 simp only [Act.put, Dp.tks]
 refine' Dp.tj 19 hS0 ?_
 simp only [Act.put, Dp.tks]
 refine' Dp.tj 20 hS0 ?_
 simp only [Act.put, Dp.tks]
 refine Dp.wpAnyL_one 21 rfl (by kernel_rfl) (by rfl) (fun K hK => ?_)
 go_simp
 refine (progOne _ _).mono ?_
 rintro e w' ⟨rfl, rfl⟩
 refine hK _ _ ⟨fun _ => hS0, ?_⟩
 clear hK K
 refine Dp.wpAnyL_one 22 rfl (by kernel_rfl) (by rfl) (fun K hK => ?_)
 go_simp
 refine (progPut s mem i _ p _ hs hi hp1.drew).mono ?_
 rintro e w' ⟨rfl, hr, hk⟩
 refine hK _ _ ⟨fun h => absurd h (Nat.lt_irrefl _), ?_⟩
 clear hK K
 refine Dp.wpAnyL_one 23 rfl (by kernel_rfl) (by rfl) (fun K hK => ?_)
 go_simp
 refine hK _ _ ⟨fun h => absurd h (by decide), ?_⟩
 clear hK K
 refine Dp.wpAnyL_done (by kernel_rfl) ?_ _
 rw [HV.out] at hr
 go_wp2
 go_ret
 exact ⟨rfl, hr, (Dp.Keeps.mono (T := fun k => k = p) k1.drew (fun _ _ e => e.elim)).next hk (fun _ _ e => e)⟩
set_option maxRecDepth 100000 in
set_option maxHeartbeats 1000000 in
theorem progDiv (s : Dp.Cs) (mem : Value) (i : Dp.Ins) (p : Nat) (w : World) (hs : s.Ok) (hi : i.Ok) (hp : Dp.Row w p 137 (Dp.coreCells s mem)) (hz : s.reg i.c ≠ 0) :
  Calls Tryz.prog 138 #[.pointer (some ⟨p, 0, none⟩), .agg (Dp.pinsCells i).toArray] w fun e w' => e = .returned (.int .i64 0) ∧ Dp.Row w' p 137 (Dp.coreCells (Dp.putted s i (s.reg i.b / s.reg i.c)) mem) ∧ Dp.Keeps (fun k => k = p) w w' := by
 go_enter Tryz.func138, Tryz.ntmps138
 go_wp2_with (refine Dp.wpList_box_row rfl 179 _ rfl (Dp.pinsCells i) rfl ?_)
 intro w1 r1 z1 k1
 have hp1 := hp.keep k1 (fun e => e)
 have q0 : ∀ wx, Dp.Keeps (fun _ => False) w1 wx → wx.cell? ⟨w.heap.size, 0, none⟩ = some (.int .u32 i.op) := fun wx kx => ((r1.keep kx (fun e => e)).pins).1
 have q1 : ∀ wx, Dp.Keeps (fun _ => False) w1 wx → wx.cell? ⟨w.heap.size, 1, none⟩ = some (.int .u32 i.a) := fun wx kx => ((r1.keep kx (fun e => e)).pins).2.1
 have q2 : ∀ wx, Dp.Keeps (fun _ => False) w1 wx → wx.cell? ⟨w.heap.size, 2, none⟩ = some (.int .u32 i.b) := fun wx kx => ((r1.keep kx (fun e => e)).pins).2.2.1
 have q3 : ∀ wx, Dp.Keeps (fun _ => False) w1 wx → wx.cell? ⟨w.heap.size, 3, none⟩ = some (.int .u32 i.c) := fun wx kx => ((r1.keep kx (fun e => e)).pins).2.2.2.1
 have q4 : ∀ wx, Dp.Keeps (fun _ => False) w1 wx → wx.cell? ⟨w.heap.size, 4, none⟩ = some (.int .u32 (Dp.wrap i.n)) := fun wx kx => ((r1.keep kx (fun e => e)).pins).2.2.2.2
 have qb : ∀ wx, Dp.Keeps (fun _ => False) w1 wx → wx.cell? ⟨p, 4 + i.b.toNat, none⟩ = some (.int .u32 (s.reg i.b)) := fun wx kx => (hp1.keep kx (fun e => e)).coreReg hs.len i.b hi.b
 have qc : ∀ wx, Dp.Keeps (fun _ => False) w1 wx → wx.cell? ⟨p, 4 + i.c.toNat, none⟩ = some (.int .u32 (s.reg i.c)) := fun wx kx => (hp1.keep kx (fun e => e)).coreReg hs.len i.c hi.c
 have hib := hi.b
 have hic := hi.c
 have hb := hs.reg i.b
 have hc := hs.reg i.c
 have hnw := Dp.wrap_word i.n
 unfold Dp.isWord at hb hc hnw
 have hS0 : Dp.Keeps (fun _ => False) w1 w1.drew.drew := (Dp.Keeps.refl _ _).drew.drew
 obtain ⟨_, _, _, j3, _⟩ := r1.pins
 have jc := hp1.coreReg hs.len i.c hi.c
 have HV : Hid (IntKind.u32.wrap ((s.reg i.b).tdiv (s.reg i.c)) = s.reg i.b / s.reg i.c) := by
  unfold Hid
  rw [Int.tdiv_eq_ediv_of_nonneg hb.1]
  have h1 := Int.ediv_nonneg hb.1 hc.1
  have h2 := Int.ediv_le_self (s.reg i.c) hb.1
  exact IntWalk.u32_in _ (by omega)
 go_wp2
 go_region
 go_wp2
 clear j3 jc
 refine Dp.wp_region_L (fun wx => Dp.Keeps (fun _ => False) w1 wx) 19 mixedP ?_
 refine' Dp.tj 0 hS0 ?_
 simp only [Act.put, Dp.tks]
 refine' Dp.tj 1 hS0 ?_
 simp only [Act.put, Dp.tks]
 refine' Dp.tj 2 hS0 ?_
 simp only [Act.put, Dp.tks]
 refine' Dp.tj 3 hS0 ?_
 simp only [Act.put, Dp.tks]
 refine' Dp.tj 4 hS0 ?_
 simp only [Act.put, Dp.tks]
 refine' Dp.tj 5 hS0 ?_
 simp only [Act.put, Dp.tks]
 refine' Dp.tj 6 hS0 ?_
 simp only [Act.put, Dp.tks]
 refine' Dp.tj 7 hS0 ?_
 simp only [Act.put, Dp.tks]
 refine' Dp.tj 8 hS0 ?_
 simp only [Act.put, Dp.tks]
 refine' Dp.tj 9 hS0 ?_
 simp only [Act.put, Dp.tks]
 refine' Dp.tj 10 hS0 ?_
 simp only [Act.put, Dp.tks]
 refine' Dp.tj 11 hS0 ?_
 simp only [Act.put, Dp.tks]
 refine' Dp.tj 12 hS0 ?_
 simp only [Act.put, Dp.tks]
 refine' Dp.tj 13 hS0 ?_
 simp only [Act.put, Dp.tks]
 refine' Dp.tj 14 hS0 ?_
 simp only [Act.put, Dp.tks]
 refine' Dp.tj 15 hS0 ?_
 simp only [Act.put, Dp.tks]
 refine' Dp.tj 16 hS0 ?_
 simp only [Act.put, Dp.tks]
 refine' Dp.tj 17 hS0 ?_
 simp only [Act.put, Dp.tks]
 refine' Dp.tj 18 hS0 ?_
 simp only [Act.put, Dp.tks]
 refine Dp.wpAnyL_one 19 rfl (by kernel_rfl) (by rfl) (fun K hK => ?_)
 go_simp
 refine (progPut s mem i _ p _ hs hi hp1.drew.drew).mono ?_
 rintro e w' ⟨rfl, hr, hk⟩
 refine hK _ _ ⟨fun h => absurd h (Nat.lt_irrefl _), ?_⟩
 clear hK K
 refine Dp.wpAnyL_one 20 rfl (by kernel_rfl) (by rfl) (fun K hK => ?_)
 go_simp
 refine hK _ _ ⟨fun h => absurd h (by decide), ?_⟩
 clear hK K
 refine Dp.wpAnyL_done (by kernel_rfl) ?_ _
 go_wp2
 go_ret
 rw [HV.out] at hr
 exact ⟨rfl, hr, (Dp.Keeps.mono (T := fun k => k = p) k1.drew.drew (fun _ _ e => e.elim)).next hk (fun _ _ e => e)⟩
set_option maxRecDepth 100000 in
set_option maxHeartbeats 1000000 in
theorem progDiv0 (s : Dp.Cs) (mem : Value) (i : Dp.Ins) (p : Nat) (w : World) (hs : s.Ok) (hi : i.Ok) (hp : Dp.Row w p 137 (Dp.coreCells s mem)) (hz : s.reg i.c = 0) :
  Calls Tryz.prog 138 #[.pointer (some ⟨p, 0, none⟩), .agg (Dp.pinsCells i).toArray] w fun e w' => e = .returned (.int .i64 4) ∧ Dp.Row w' p 137 (Dp.coreCells s mem) ∧ Dp.Keeps (fun k => k = p) w w' := by
 go_enter Tryz.func138, Tryz.ntmps138
 go_wp2_with (refine Dp.wpList_box_row rfl 179 _ rfl (Dp.pinsCells i) rfl ?_)
 intro w1 r1 z1 k1
 have hp1 := hp.keep k1 (fun e => e)
 obtain ⟨_, _, _, j3, _⟩ := r1.pins
 have jc := hp1.coreReg hs.len i.c hi.c
 rw [hz] at jc
 have hic := hi.c
 go_wp2
 go_region
 go_wp2
 go_ret
 exact ⟨rfl, hp1.drew, (Dp.Keeps.mono (T := fun k => k = p) k1.drew (fun _ _ e => e.elim))⟩
set_option maxRecDepth 100000 in
set_option maxHeartbeats 1000000 in
theorem progHalt (s : Dp.Cs) (mem : Value) (i : Dp.Ins) (p : Nat) (w : World) (hs : s.Ok) (hi : i.Ok) (hp : Dp.Row w p 137 (Dp.coreCells s mem)) :
  Calls Tryz.prog 128 #[.pointer (some ⟨p, 0, none⟩), .agg (Dp.pinsCells i).toArray] w fun e w' => e = .returned (.int .i64 0) ∧ Dp.Row w' p 137 (Dp.coreCells { s with over := true, code := s.reg i.a } mem) ∧ Dp.Keeps (fun k => k = p) w w' := by
 have hlt := hp.lt
 go_enter Tryz.func128, Tryz.ntmps128
 go_wp2_with (refine Dp.wpList_box_row rfl 179 _ rfl (Dp.pinsCells i) rfl ?_)
 intro w1 r1 z1 k1
 have hp1 := hp.keep k1 (fun e => e)
 obtain ⟨_, _, _, c3⟩ := hp1.core
 have f3 := hp1.frozen 3
 have hne2 : w.heap.size ≠ p := by omega
 have hp2 : Dp.Row (w1.setCell ⟨p, 3, none⟩ (.bool true)) p 137 (Dp.coreCells { s with over := true } mem) := hp1.set 3 (.bool true)
 have r2 := r1.setOther ⟨p, 3, none⟩ (.bool true) hne2
 obtain ⟨_, ia, _, _, _⟩ := r2.pins
 obtain ⟨_, _, c2, _⟩ := hp2.core
 have cr := hp2.coreReg hs.len i.a hi.a
 have er : Dp.Cs.reg { s with over := true } i.a = s.reg i.a := rfl
 rw [er] at cr
 have f2 := hp2.frozen 2
 have hia := hi.a
 have hra := hs.reg i.a
 unfold Dp.isWord at hra
 have HR : Hid (Dp.Row ((w1.setCell ⟨p, 3, none⟩ (.bool true)).setCell ⟨p, 2, none⟩ (.int .u32 (s.reg i.a))) p 137 (Dp.coreCells { s with over := true, code := s.reg i.a } mem)) := hp2.set 2 (.int .u32 (s.reg i.a))
 have HK : Hid (Dp.Keeps (fun k => k = p) w ((w1.setCell ⟨p, 3, none⟩ (.bool true)).setCell ⟨p, 2, none⟩ (.int .u32 (s.reg i.a)))) :=
  (Dp.Keeps.setCell (p := ⟨p, 3, none⟩) (Dp.Keeps.mono (T := fun k => k = p) k1 (fun _ _ e => e.elim)) (.inr rfl) _).setCell (p := ⟨p, 2, none⟩) (.inr rfl) _
 clear hp hp1 hp2 r1 r2 k1 er
 go_wp2
 go_region
 go_wp2
 go_ret
 exact ⟨rfl, HR.out.drew, HK.out.drew⟩
set_option maxRecDepth 100000 in
set_option maxHeartbeats 1000000 in
theorem progHigh (s : Dp.Cs) (mem : Value) (i : Dp.Ins) (p : Nat) (w : World) (hs : s.Ok) (hi : i.Ok) (hp : Dp.Row w p 137 (Dp.coreCells s mem)) :
  Calls Tryz.prog 140 #[.pointer (some ⟨p, 0, none⟩), .agg (Dp.pinsCells i).toArray] w fun e w' => e = .returned (.int .i64 0) ∧ Dp.Row w' p 137 (Dp.coreCells (Dp.putted s i (Dp.wrap (i.n * 32768))) mem) ∧ Dp.Keeps (fun k => k = p) w w' := by
 have HV : Hid (Dp.wrap i.n * 32768 % 4294967296 = Dp.wrap (i.n * 32768)) := by unfold Hid Dp.wrap; omega
 have hnw := Dp.wrap_word i.n
 unfold Dp.isWord at hnw
 go_enter Tryz.func140, Tryz.ntmps140
 go_wp2_with (refine Dp.wpList_box_row rfl 179 _ rfl (Dp.pinsCells i) rfl ?_)
 intro w1 r1 z1 k1
 have hp1 := hp.keep k1 (fun e => e)
 obtain ⟨i0, i1, i2, i3, i4⟩ := r1.pins
 go_wp2_with fail
 refine (progPut s mem i _ p _ hs hi hp1).mono ?_
 rintro e w' ⟨rfl, hr, hk⟩
 rw [HV.out] at hr
 go_wp2
 go_ret
 exact ⟨rfl, hr, (Dp.Keeps.mono (T := fun k => k = p) k1 (fun _ _ e => e.elim)).next hk (fun _ _ e => e)⟩
set_option maxRecDepth 100000 in
set_option maxHeartbeats 1000000 in
theorem progCall (s : Dp.Cs) (mem : Value) (i : Dp.Ins) (p : Nat) (w : World) (hs : s.Ok) (hi : i.Ok) (hp : Dp.Row w p 137 (Dp.coreCells s mem)) :
  Calls Tryz.prog 146 #[.pointer (some ⟨p, 0, none⟩), .agg (Dp.pinsCells i).toArray] w fun e w' => e = .returned (.int .i64 0) ∧ Dp.Row w' p 137 (Dp.coreCells { s with pc := Dp.wrap (s.reg i.b + i.n), regs := s.regs.set i.a.toNat (Dp.wrap (s.pc + 1)) } mem) ∧ Dp.Keeps (fun k => k = p) w w' := by
 have hlt := hp.lt
 have hpc := hs.pc
 unfold Dp.isWord at hpc
 go_enter Tryz.func146, Tryz.ntmps146
 go_wp2_with (refine Dp.wpList_box_row rfl 179 _ rfl (Dp.pinsCells i) rfl ?_)
 intro w1 r1 z1 k1
 have hp1 := hp.keep k1 (fun e => e)
 have hne2 : w.heap.size ≠ p := by omega
 obtain ⟨_, i1, i2, _, i4⟩ := r1.pins
 obtain ⟨c0, _, _, _⟩ := hp1.core
 have cb := hp1.coreReg hs.len i.b hi.b
 have ca := hp1.coreReg hs.len i.a hi.a
 have fa := hp1.frozen (4 + i.a.toNat)
 have hp2 := hp1.set (4 + i.a.toNat) (.int .u32 (Dp.wrap (s.pc + 1)))
 rw [Dp.coreCells_put s mem hs.len i.a _ hi.a] at hp2
 obtain ⟨d0, _, _, _⟩ := hp2.core
 have e0 : (s.put i.a (Dp.wrap (s.pc + 1))).pc = s.pc := rfl
 rw [e0] at d0
 have g0 := hp2.frozen 0
 have hia := hi.a
 have hib := hi.b
 have hb := hs.reg i.b
 have hnw := Dp.wrap_word i.n
 unfold Dp.isWord at hb hnw
 have HR : Hid (Dp.Row ((w1.setCell ⟨p, 4 + i.a.toNat, none⟩ (.int .u32 (Dp.wrap (s.pc + 1)))).setCell ⟨p, 0, none⟩ (.int .u32 (Dp.wrap (s.reg i.b + i.n)))) p 137 (Dp.coreCells { s with pc := Dp.wrap (s.reg i.b + i.n), regs := s.regs.set i.a.toNat (Dp.wrap (s.pc + 1)) } mem)) := hp2.set 0 (.int .u32 (Dp.wrap (s.reg i.b + i.n)))
 have HK : Hid (Dp.Keeps (fun k => k = p) w ((w1.setCell ⟨p, 4 + i.a.toNat, none⟩ (.int .u32 (Dp.wrap (s.pc + 1)))).setCell ⟨p, 0, none⟩ (.int .u32 (Dp.wrap (s.reg i.b + i.n))))) :=
  (Dp.Keeps.setCell (p := ⟨p, 4 + i.a.toNat, none⟩) (Dp.Keeps.mono (T := fun k => k = p) k1 (fun _ _ e => e.elim)) (.inr rfl) _).setCell (p := ⟨p, 0, none⟩) (.inr rfl) _
 clear hp hp1 hp2 r1 k1 e0
 unfold Dp.wrap at d0 g0 i4 hnw
 go_wp2
 go_region
 go_wp2
 go_region
 go_wp2
 go_ret
 exact ⟨rfl, HR.out.drew.drew, HK.out.drew.drew⟩
end Go.Proofs.YtdipojfngdceoaaGreatDoor
