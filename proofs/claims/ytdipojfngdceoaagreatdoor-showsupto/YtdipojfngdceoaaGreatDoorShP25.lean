/- Steps on the way: LawStep, LawStep2. -/
import Derived.Test.YtdipojfngdceoaaGreatDoorShP09
import Derived.Test.YtdipojfngdceoaaGreatDoorShP19
import Derived.Test.YtdipojfngdceoaaGreatDoorShP24
/- A step of a script: the program's machine and the document's come to the same. -/
namespace Go.Proofs.YtdipojfngdceoaaGreatDoor
open Go.RowKit

namespace Dp
def opCells (kind n : Int) (vA : Value) (St : ByteArray) (which : Bool) : List Value := [.int .i64 kind, .int .i64 n, vA, .string St, .bool which]
/-- What a step of a script does with a machine, of the kinds up to Stamp. -/
def applyOp (m : Mach) (kind n : Int) : Mach := if kind = 1 then m.step.1 else if kind = 2 ∧ 0 ≤ n ∧ n ≤ 100000 then (Mach.run n.toNat m).1 else m
theorem Row.ops {w : World} {g : Nat} {e : TypeId} {kind n : Int} {vA : Value} {St : ByteArray} {which : Bool} (h : Row w g e (opCells kind n vA St which)) : w.cell? ⟨g, 0, none⟩ = some (.int .i64 kind) ∧ w.cell? ⟨g, 1, none⟩ = some (.int .i64 n) ∧ w.cell? ⟨g, 2, none⟩ = some vA ∧ w.cell? ⟨g, 3, none⟩ = some (.string St) ∧ w.cell? ⟨g, 4, none⟩ = some (.bool which) := by
 refine ⟨?_, ?_, ?_, ?_, ?_⟩ <;> (rw [h.cell]; rfl)
/-- The program's machine has gone on, the document's not yet. -/
theorem Side.then {w w1 w2 : World} {s b p g : Nat} {G : Nat → Prop} {vs vr : Value} {m m' : Mach} (h : Side w s b p g G vs vr m) (k1 : Keeps (fun k => k = b) w w1) (h1 : ProgM w1 b G vs m') (k2 : Keeps (fun k => k = p ∨ k = g) w1 w2) (h2 : RefM w2 p g vr m') : Side w2 s b p g G vs vr m' := by
 obtain ⟨n1, n2, n3, n4, n5, n6, n7⟩ := h.ne
 refine ⟨(h.row.keep k1 n1).keep k2 (by omega), h1.keep k2 (by omega) (fun q hq e => ?_), h2, h.apart⟩
 have := h.apart q hq
 omega
theorem Side.refOn {w w1 : World} {s b p g : Nat} {G : Nat → Prop} {vs vr : Value} {m : Mach} (h : Side w s b p g G vs vr m) (k1 : Keeps (fun k => k = b) w w1) : RefM w1 p g vr m := by
 obtain ⟨n1, n2, n3, n4, n5, n6, n7⟩ := h.ne
 exact h.ref.keep k1 (fun e => n4 e.symm) (fun e => n5 e.symm) (fun q hq e => (n7 q hq).1 e)
end Dp

set_option maxRecDepth 100000 in
set_option maxHeartbeats 1000000 in
theorem lawStep1 (w : World) (W s b p g : Nat) (G : Nat → Prop) (vs vr : Value) (m : Dp.Mach) (kind n : Int) (vA : Value) (St : ByteArray) (which : Bool) (h : Dp.Side w s b p g G vs vr m) (hk : kind = 1) :
  Calls Tryz.prog 32 #[.pointer (some ⟨W, 0, none⟩), .pointer (some ⟨s, 0, none⟩), .agg (Dp.opCells kind n vA St which).toArray] w fun e w' => e = .returned (.bool true) ∧ Dp.Keeps (fun k => k = b ∨ k = p ∨ k = g) w w' ∧ Dp.Side w' s b p g G vs vr (Dp.applyOp m kind n) := by
 obtain ⟨n1, n2, n3, n4, n5, n6, n7⟩ := h.ne
 go_enter Tryz.func32, Tryz.ntmps32
 go_wp2_with (refine Dp.wpList_box_row rfl 40 _ rfl (Dp.opCells kind n vA St which) rfl ?_)
 intro w1 r1 z1 k1
 have h1 := h.still k1
 clear h
 subst hk
 obtain ⟨o0, _, _, _, _⟩ := r1.ops
 obtain ⟨c0, c1⟩ := h1.cells
 go_wp2_with fail
 refine (progMStep w1 b G vs m h1.prog).mono ?_
 rintro e w2 ⟨rfl, k2, p2⟩
 have c1' : w2.cell? ⟨s, 1, none⟩ = some (.pointer (some ⟨p, 0, none⟩)) := (h1.row.keep k2 n1).cell 1
 have HRF := Hid.mk_ (h1.refOn k2)
 clear c0 c1 o0
 go_wp2_with fail
 refine (refStep w2 p g vr m HRF.out).mono ?_
 rintro e w3 ⟨rfl, k3, m3⟩
 have HSS : Hid (Dp.Side w3 s b p g G vs vr (Dp.applyOp m 1 n)) := h1.then k2 p2 k3 m3
 have HKK : Hid (Dp.Keeps (fun k => k = b ∨ k = p ∨ k = g) w w3) := ((k1.mono (fun _ _ e => e.elim)).next k2 (fun _ _ e => .inl e)).next k3 (fun _ _ e => .inr e)
 generalize m.step.2 = er at *
 clear c1'
 go_wp2
 go_ret
 exact ⟨rfl, HKK.out, HSS.out⟩

set_option maxRecDepth 100000 in
set_option maxHeartbeats 1000000 in
theorem lawStep2 (w : World) (W s b p g : Nat) (G : Nat → Prop) (vs vr : Value) (m : Dp.Mach) (kind n : Int) (vA : Value) (St : ByteArray) (which : Bool) (h : Dp.Side w s b p g G vs vr m) (hk : kind = 2) (N : Nat) (hnN : n = N) (hN : N ≤ 100000) :
  Calls Tryz.prog 32 #[.pointer (some ⟨W, 0, none⟩), .pointer (some ⟨s, 0, none⟩), .agg (Dp.opCells kind n vA St which).toArray] w fun e w' => e = .returned (.bool true) ∧ Dp.Keeps (fun k => k = b ∨ k = p ∨ k = g) w w' ∧ Dp.Side w' s b p g G vs vr (Dp.applyOp m kind n) := by
 obtain ⟨n1, n2, n3, n4, n5, n6, n7⟩ := h.ne
 go_enter Tryz.func32, Tryz.ntmps32
 go_wp2_with (refine Dp.wpList_box_row rfl 40 _ rfl (Dp.opCells kind n vA St which) rfl ?_)
 intro w1 r1 z1 k1
 have h1 := h.still k1
 clear h
 subst hk
 subst hnN
 obtain ⟨o0, _, _, _, _⟩ := r1.ops
 have qx : ∀ wx, Dp.Keeps (fun _ => False) w1 wx → wx.cell? ⟨s, 0, none⟩ = some (.pointer (some ⟨b, 0, none⟩)) := fun wx kx => (h1.row.keep kx (fun e => e)).cell 0
 have qn : ∀ wx, Dp.Keeps (fun _ => False) w1 wx → wx.cell? ⟨w.heap.size, 1, none⟩ = some (.int .i64 (N : Int)) := fun wx kx => ((r1.keep kx (fun e => e)).ops).2.1
 have hS0 : Dp.Keeps (fun _ => False) w1 w1.drew := (Dp.Keeps.refl _ _).drew
 go_wp2
 clear o0
 refine Dp.wp_region_L (fun wx => Dp.Keeps (fun _ => False) w1 wx) 6 mixedP ?_
 refine' Dp.wpAnyL_take 0 rfl (by kernel_rfl) (fun _ _ _ h => h) (by rfl) ?hy0 hS0 ?rest0
 case hy0 => intro wx hSx; go_simp; try with_reducible rfl
 simp only [Act.put, Dp.tks]
 refine' Dp.wpAnyL_take 1 rfl (by kernel_rfl) (fun _ _ _ h => h) (by rfl) ?hy1 hS0 ?rest1
 case hy1 => intro wx hSx; go_simp; try with_reducible rfl
 simp only [Act.put, Dp.tks]
 refine' Dp.wpAnyL_take 2 rfl (by kernel_rfl) (fun _ _ _ h => h) (by rfl) ?hy2 hS0 ?rest2
 case hy2 => intro wx hSx; go_simp; try with_reducible rfl
 simp only [Act.put, Dp.tks]
 refine' Dp.wpAnyL_take 3 rfl (by kernel_rfl) (fun _ _ _ h => h) (by rfl) ?hy3 hS0 ?rest3
 case hy3 => intro wx hSx; go_simp; try with_reducible rfl
 simp only [Act.put, Dp.tks]
 refine' Dp.wpAnyL_take 4 rfl (by kernel_rfl) (fun _ _ _ h => h) (by rfl) ?hy4 hS0 ?rest4
 case hy4 => intro wx hSx; go_simp; try with_reducible rfl
 simp only [Act.put, Dp.tks]
 refine' Dp.wpAnyL_take 5 rfl (by kernel_rfl) (fun _ _ _ h => h) (by rfl) ?hy5 hS0 ?rest5
 case hy5 => intro wx hSx; go_simp; try with_reducible rfl
 simp only [Act.put, Dp.tks]
 refine Dp.wpAnyL_one 6 rfl (by kernel_rfl) (by rfl) (fun K hK => ?_)
 go_simp
 refine (progMRun w1.drew b G vs m (h1.still hS0).prog N hN).mono ?_
 rintro e w2 ⟨rfl, k2, p2⟩
 refine hK _ _ ⟨fun h => absurd h (Nat.lt_irrefl _), ?_⟩
 clear hK K
 refine Dp.wpAnyL_rest (by kernel_rfl) ?_
 refine' Dp.wpAny_pure 7 rfl (by kernel_rfl) (fun _ _ _ h => h) (.inl ⟨by rfl, ?hp7⟩) ?pest7
 case hp7 => intro wx; go_simp; try with_reducible rfl
 simp only [Act.put, Dp.tks]
 refine' Dp.wpAny_pure 8 rfl (by kernel_rfl) (fun _ _ _ h => h) (.inl ⟨by rfl, ?hp8⟩) ?pest8
 case hp8 => intro wx; go_simp; try with_reducible rfl
 simp only [Act.put, Dp.tks]
 refine' Dp.wpAny_pure 9 rfl (by kernel_rfl) (fun _ _ _ h => h) (.inl ⟨by rfl, ?hp9⟩) ?pest9
 case hp9 => intro wx; go_simp; try with_reducible rfl
 simp only [Act.put, Dp.tks]
 refine' Dp.wpAny_pure 10 rfl (by kernel_rfl) (fun _ _ _ h => h) (.inl ⟨by rfl, ?hp10⟩) ?pest10
 case hp10 => intro wx; go_simp; try with_reducible rfl
 simp only [Act.put, Dp.tks]
 refine' Dp.wpAny_pure 11 rfl (by kernel_rfl) (fun _ _ _ h => h) (.inl ⟨by rfl, ?hp11⟩) ?pest11
 case hp11 => intro wx; go_simp; try with_reducible rfl
 simp only [Act.put, Dp.tks]
 refine wpAny_done (by kernel_rfl) ?_ _
 have h1d := h1.still hS0
 have c1 : ∀ wx, Dp.Keeps (fun _ => False) w2 wx → wx.cell? ⟨s, 1, none⟩ = some (.pointer (some ⟨p, 0, none⟩)) := fun wx kx => ((h1d.row.keep k2 n1).keep kx (fun e => e)).cell 1
 have hwb : ¬ w.heap.size = b := fun e => by have := h1.prog.row; exact (r1.ne this (by decide)) e
 have cn : ∀ wx, Dp.Keeps (fun _ => False) w2 wx → wx.cell? ⟨w.heap.size, 1, none⟩ = some (.int .i64 (N : Int)) := fun wx kx => (((r1.keep hS0 (fun e => e)).keep k2 hwb).keep kx (fun e => e)).ops.2.1
 have HRF := Hid.mk_ (h1d.refOn k2)
 have hS2 : Dp.Keeps (fun _ => False) w2 w2.drew := (Dp.Keeps.refl _ _).drew
 clear qx qn
 go_wp2
 refine Dp.wp_region_L (fun wx => Dp.Keeps (fun _ => False) w2 wx) 6 mixedP ?_
 refine' Dp.wpAnyL_take 0 rfl (by kernel_rfl) (fun _ _ _ h => h) (by rfl) ?jy0 hS2 ?jest0
 case jy0 => intro wx hSx; go_simp; try with_reducible rfl
 simp only [Act.put, Dp.tks]
 refine' Dp.wpAnyL_take 1 rfl (by kernel_rfl) (fun _ _ _ h => h) (by rfl) ?jy1 hS2 ?jest1
 case jy1 => intro wx hSx; go_simp; try with_reducible rfl
 simp only [Act.put, Dp.tks]
 refine' Dp.wpAnyL_take 2 rfl (by kernel_rfl) (fun _ _ _ h => h) (by rfl) ?jy2 hS2 ?jest2
 case jy2 => intro wx hSx; go_simp; try with_reducible rfl
 simp only [Act.put, Dp.tks]
 refine' Dp.wpAnyL_take 3 rfl (by kernel_rfl) (fun _ _ _ h => h) (by rfl) ?jy3 hS2 ?jest3
 case jy3 => intro wx hSx; go_simp; try with_reducible rfl
 simp only [Act.put, Dp.tks]
 refine' Dp.wpAnyL_take 4 rfl (by kernel_rfl) (fun _ _ _ h => h) (by rfl) ?jy4 hS2 ?jest4
 case jy4 => intro wx hSx; go_simp; try with_reducible rfl
 simp only [Act.put, Dp.tks]
 refine' Dp.wpAnyL_take 5 rfl (by kernel_rfl) (fun _ _ _ h => h) (by rfl) ?jy5 hS2 ?jest5
 case jy5 => intro wx hSx; go_simp; try with_reducible rfl
 simp only [Act.put, Dp.tks]
 refine Dp.wpAnyL_one 6 rfl (by kernel_rfl) (by rfl) (fun K hK => ?_)
 go_simp
 refine (refRun w2.drew p g vr m (HRF.out.keep hS2 (fun e => e) (fun e => e) (fun _ _ e => e)) N hN).mono ?_
 rintro e w3 ⟨rfl, k3, m3⟩
 refine hK _ _ ⟨fun h => absurd h (Nat.lt_irrefl _), ?_⟩
 clear hK K
 refine Dp.wpAnyL_rest (by kernel_rfl) ?_
 refine' Dp.wpAny_pure 7 rfl (by kernel_rfl) (fun _ _ _ h => h) (.inl ⟨by rfl, ?ip7⟩) ?iest7
 case ip7 => intro wx; go_simp; try with_reducible rfl
 simp only [Act.put, Dp.tks]
 refine' Dp.wpAny_pure 8 rfl (by kernel_rfl) (fun _ _ _ h => h) (.inl ⟨by rfl, ?ip8⟩) ?iest8
 case ip8 => intro wx; go_simp; try with_reducible rfl
 simp only [Act.put, Dp.tks]
 refine' Dp.wpAny_pure 9 rfl (by kernel_rfl) (fun _ _ _ h => h) (.inl ⟨by rfl, ?ip9⟩) ?iest9
 case ip9 => intro wx; go_simp; try with_reducible rfl
 simp only [Act.put, Dp.tks]
 refine' Dp.wpAny_pure 10 rfl (by kernel_rfl) (fun _ _ _ h => h) (.inl ⟨by rfl, ?ip10⟩) ?iest10
 case ip10 => intro wx; go_simp; try with_reducible rfl
 simp only [Act.put, Dp.tks]
 refine' Dp.wpAny_pure 11 rfl (by kernel_rfl) (fun _ _ _ h => h) (.inl ⟨by rfl, ?ip11⟩) ?iest11
 case ip11 => intro wx; go_simp; try with_reducible rfl
 simp only [Act.put, Dp.tks]
 refine wpAny_done (by kernel_rfl) ?_ _
 have HSS : Hid (Dp.Side w3 s b p g G vs vr (Dp.applyOp m 2 N)) := by
  have e1 : Dp.applyOp m 2 N = (Dp.Mach.run N m).1 := by unfold Dp.applyOp; rw [if_neg (by decide), if_pos ⟨rfl, by omega, by omega⟩, Int.toNat_natCast]
  unfold Hid; rw [e1]
  exact h1d.then (k2) p2 (hS2.mono (fun _ _ e => e.elim) |>.trans k3) m3
 generalize Dp.Mach.run N m = RR at *
 have HKK : Hid (Dp.Keeps (fun k => k = b ∨ k = p ∨ k = g) w w3) := (((k1.trans hS0).mono (fun _ _ e => e.elim)).next k2 (fun _ _ e => .inl e)).next (hS2.mono (fun _ _ e => e.elim) |>.trans k3) (fun _ _ e => .inr e)
 clear c1 cn
 go_wp2
 go_ret
 exact ⟨rfl, HKK.out, HSS.out⟩

set_option maxRecDepth 100000 in
set_option maxHeartbeats 1000000 in
theorem lawStep2Err (w : World) (W s b p g : Nat) (G : Nat → Prop) (vs vr : Value) (m : Dp.Mach) (kind n : Int) (vA : Value) (St : ByteArray) (which : Bool) (h : Dp.Side w s b p g G vs vr m) (hk : kind = 2) (hn : n < 0 ∨ 100000 < n) :
  Calls Tryz.prog 32 #[.pointer (some ⟨W, 0, none⟩), .pointer (some ⟨s, 0, none⟩), .agg (Dp.opCells kind n vA St which).toArray] w fun e w' => e = .returned (.bool true) ∧ Dp.Keeps (fun k => k = b ∨ k = p ∨ k = g) w w' ∧ Dp.Side w' s b p g G vs vr (Dp.applyOp m kind n) := by
 obtain ⟨n1, n2, n3, n4, n5, n6, n7⟩ := h.ne
 go_enter Tryz.func32, Tryz.ntmps32
 go_wp2_with (refine Dp.wpList_box_row rfl 40 _ rfl (Dp.opCells kind n vA St which) rfl ?_)
 intro w1 r1 z1 k1
 have h1 := h.still k1
 clear h
 subst hk
 obtain ⟨o0, _, _, _, _⟩ := r1.ops
 have qx : ∀ wx, Dp.Keeps (fun _ => False) w1 wx → wx.cell? ⟨s, 0, none⟩ = some (.pointer (some ⟨b, 0, none⟩)) := fun wx kx => (h1.row.keep kx (fun e => e)).cell 0
 have qn : ∀ wx, Dp.Keeps (fun _ => False) w1 wx → wx.cell? ⟨w.heap.size, 1, none⟩ = some (.int .i64 n) := fun wx kx => ((r1.keep kx (fun e => e)).ops).2.1
 have hS0 : Dp.Keeps (fun _ => False) w1 w1.drew := (Dp.Keeps.refl _ _).drew
 go_wp2
 clear o0
 refine Dp.wp_region_L (fun wx => Dp.Keeps (fun _ => False) w1 wx) 6 mixedP ?_
 refine' Dp.wpAnyL_take 0 rfl (by kernel_rfl) (fun _ _ _ h => h) (by rfl) ?hy0 hS0 ?rest0
 case hy0 => intro wx hSx; go_simp; try with_reducible rfl
 simp only [Act.put, Dp.tks]
 refine' Dp.wpAnyL_take 1 rfl (by kernel_rfl) (fun _ _ _ h => h) (by rfl) ?hy1 hS0 ?rest1
 case hy1 => intro wx hSx; go_simp; try with_reducible rfl
 simp only [Act.put, Dp.tks]
 refine' Dp.wpAnyL_take 2 rfl (by kernel_rfl) (fun _ _ _ h => h) (by rfl) ?hy2 hS0 ?rest2
 case hy2 => intro wx hSx; go_simp; try with_reducible rfl
 simp only [Act.put, Dp.tks]
 refine' Dp.wpAnyL_take 3 rfl (by kernel_rfl) (fun _ _ _ h => h) (by rfl) ?hy3 hS0 ?rest3
 case hy3 => intro wx hSx; go_simp; try with_reducible rfl
 simp only [Act.put, Dp.tks]
 refine' Dp.wpAnyL_take 4 rfl (by kernel_rfl) (fun _ _ _ h => h) (by rfl) ?hy4 hS0 ?rest4
 case hy4 => intro wx hSx; go_simp; try with_reducible rfl
 simp only [Act.put, Dp.tks]
 refine' Dp.wpAnyL_take 5 rfl (by kernel_rfl) (fun _ _ _ h => h) (by rfl) ?hy5 hS0 ?rest5
 case hy5 => intro wx hSx; go_simp; try with_reducible rfl
 simp only [Act.put, Dp.tks]
 refine Dp.wpAnyL_one 6 rfl (by kernel_rfl) (by rfl) (fun K hK => ?_)
 go_simp
 refine (progMRunErr w1.drew b n hn).mono ?_
 rintro e w2 ⟨rfl, hw2⟩
 have k2 : Dp.Keeps (fun k => k = b) w1.drew w2 := by rw [hw2]; exact Dp.Keeps.refl _ _
 have p2 : Dp.ProgM w2 b G vs m := by rw [hw2]; exact (h1.still hS0).prog
 clear hw2
 refine hK _ _ ⟨fun h => absurd h (Nat.lt_irrefl _), ?_⟩
 clear hK K
 refine Dp.wpAnyL_rest (by kernel_rfl) ?_
 refine' Dp.wpAny_pure 7 rfl (by kernel_rfl) (fun _ _ _ h => h) (.inl ⟨by rfl, ?hp7⟩) ?pest7
 case hp7 => intro wx; go_simp; try with_reducible rfl
 simp only [Act.put, Dp.tks]
 refine' Dp.wpAny_pure 8 rfl (by kernel_rfl) (fun _ _ _ h => h) (.inl ⟨by rfl, ?hp8⟩) ?pest8
 case hp8 => intro wx; go_simp; try with_reducible rfl
 simp only [Act.put, Dp.tks]
 refine' Dp.wpAny_pure 9 rfl (by kernel_rfl) (fun _ _ _ h => h) (.inl ⟨by rfl, ?hp9⟩) ?pest9
 case hp9 => intro wx; go_simp; try with_reducible rfl
 simp only [Act.put, Dp.tks]
 refine' Dp.wpAny_pure 10 rfl (by kernel_rfl) (fun _ _ _ h => h) (.inl ⟨by rfl, ?hp10⟩) ?pest10
 case hp10 => intro wx; go_simp; try with_reducible rfl
 simp only [Act.put, Dp.tks]
 refine' Dp.wpAny_pure 11 rfl (by kernel_rfl) (fun _ _ _ h => h) (.inl ⟨by rfl, ?hp11⟩) ?pest11
 case hp11 => intro wx; go_simp; try with_reducible rfl
 simp only [Act.put, Dp.tks]
 refine wpAny_done (by kernel_rfl) ?_ _
 have h1d := h1.still hS0
 have c1 : ∀ wx, Dp.Keeps (fun _ => False) w2 wx → wx.cell? ⟨s, 1, none⟩ = some (.pointer (some ⟨p, 0, none⟩)) := fun wx kx => ((h1d.row.keep k2 n1).keep kx (fun e => e)).cell 1
 have hwb : ¬ w.heap.size = b := fun e => by have := h1.prog.row; exact (r1.ne this (by decide)) e
 have cn : ∀ wx, Dp.Keeps (fun _ => False) w2 wx → wx.cell? ⟨w.heap.size, 1, none⟩ = some (.int .i64 n) := fun wx kx => (((r1.keep hS0 (fun e => e)).keep k2 hwb).keep kx (fun e => e)).ops.2.1
 have HRF := Hid.mk_ (h1d.refOn k2)
 have hS2 : Dp.Keeps (fun _ => False) w2 w2.drew := (Dp.Keeps.refl _ _).drew
 clear qx qn
 go_wp2
 refine Dp.wp_region_L (fun wx => Dp.Keeps (fun _ => False) w2 wx) 6 mixedP ?_
 refine' Dp.wpAnyL_take 0 rfl (by kernel_rfl) (fun _ _ _ h => h) (by rfl) ?jy0 hS2 ?jest0
 case jy0 => intro wx hSx; go_simp; try with_reducible rfl
 simp only [Act.put, Dp.tks]
 refine' Dp.wpAnyL_take 1 rfl (by kernel_rfl) (fun _ _ _ h => h) (by rfl) ?jy1 hS2 ?jest1
 case jy1 => intro wx hSx; go_simp; try with_reducible rfl
 simp only [Act.put, Dp.tks]
 refine' Dp.wpAnyL_take 2 rfl (by kernel_rfl) (fun _ _ _ h => h) (by rfl) ?jy2 hS2 ?jest2
 case jy2 => intro wx hSx; go_simp; try with_reducible rfl
 simp only [Act.put, Dp.tks]
 refine' Dp.wpAnyL_take 3 rfl (by kernel_rfl) (fun _ _ _ h => h) (by rfl) ?jy3 hS2 ?jest3
 case jy3 => intro wx hSx; go_simp; try with_reducible rfl
 simp only [Act.put, Dp.tks]
 refine' Dp.wpAnyL_take 4 rfl (by kernel_rfl) (fun _ _ _ h => h) (by rfl) ?jy4 hS2 ?jest4
 case jy4 => intro wx hSx; go_simp; try with_reducible rfl
 simp only [Act.put, Dp.tks]
 refine' Dp.wpAnyL_take 5 rfl (by kernel_rfl) (fun _ _ _ h => h) (by rfl) ?jy5 hS2 ?jest5
 case jy5 => intro wx hSx; go_simp; try with_reducible rfl
 simp only [Act.put, Dp.tks]
 refine Dp.wpAnyL_one 6 rfl (by kernel_rfl) (by rfl) (fun K hK => ?_)
 go_simp
 refine (refRunErr w2.drew p n hn).mono ?_
 rintro e w3 ⟨rfl, hw3⟩
 have k3 : Dp.Keeps (fun k => k = p ∨ k = g) w2.drew w3 := by rw [hw3]; exact Dp.Keeps.refl _ _
 have m3 : Dp.RefM w3 p g vr m := by rw [hw3]; exact HRF.out.keep hS2 (fun e => e) (fun e => e) (fun _ _ e => e)
 clear hw3
 refine hK _ _ ⟨fun h => absurd h (Nat.lt_irrefl _), ?_⟩
 clear hK K
 refine Dp.wpAnyL_rest (by kernel_rfl) ?_
 refine' Dp.wpAny_pure 7 rfl (by kernel_rfl) (fun _ _ _ h => h) (.inl ⟨by rfl, ?ip7⟩) ?iest7
 case ip7 => intro wx; go_simp; try with_reducible rfl
 simp only [Act.put, Dp.tks]
 refine' Dp.wpAny_pure 8 rfl (by kernel_rfl) (fun _ _ _ h => h) (.inl ⟨by rfl, ?ip8⟩) ?iest8
 case ip8 => intro wx; go_simp; try with_reducible rfl
 simp only [Act.put, Dp.tks]
 refine' Dp.wpAny_pure 9 rfl (by kernel_rfl) (fun _ _ _ h => h) (.inl ⟨by rfl, ?ip9⟩) ?iest9
 case ip9 => intro wx; go_simp; try with_reducible rfl
 simp only [Act.put, Dp.tks]
 refine' Dp.wpAny_pure 10 rfl (by kernel_rfl) (fun _ _ _ h => h) (.inl ⟨by rfl, ?ip10⟩) ?iest10
 case ip10 => intro wx; go_simp; try with_reducible rfl
 simp only [Act.put, Dp.tks]
 refine' Dp.wpAny_pure 11 rfl (by kernel_rfl) (fun _ _ _ h => h) (.inl ⟨by rfl, ?ip11⟩) ?iest11
 case ip11 => intro wx; go_simp; try with_reducible rfl
 simp only [Act.put, Dp.tks]
 refine wpAny_done (by kernel_rfl) ?_ _
 have HSS : Hid (Dp.Side w3 s b p g G vs vr (Dp.applyOp m 2 n)) := by
  have e1 : Dp.applyOp m 2 n = m := by unfold Dp.applyOp; rw [if_neg (by decide), if_neg (by omega)]
  unfold Hid; rw [e1]
  exact h1d.then (k2) p2 (hS2.mono (fun _ _ e => e.elim) |>.trans k3) m3
 have HKK : Hid (Dp.Keeps (fun k => k = b ∨ k = p ∨ k = g) w w3) := (((k1.trans hS0).mono (fun _ _ e => e.elim)).next k2 (fun _ _ e => .inl e)).next (hS2.mono (fun _ _ e => e.elim) |>.trans k3) (fun _ _ e => .inr e)
 clear c1 cn
 go_wp2
 go_ret
 exact ⟨rfl, HKK.out, HSS.out⟩

set_option maxRecDepth 100000 in
set_option maxHeartbeats 1000000 in
theorem lawStep3 (w : World) (W s b p g : Nat) (G : Nat → Prop) (vs vr : Value) (m : Dp.Mach) (kind n : Int) (vA : Value) (St : ByteArray) (which : Bool) (h : Dp.Side w s b p g G vs vr m) (hk : kind = 3) :
  Calls Tryz.prog 32 #[.pointer (some ⟨W, 0, none⟩), .pointer (some ⟨s, 0, none⟩), .agg (Dp.opCells kind n vA St which).toArray] w fun e w' => e = .returned (.bool true) ∧ Dp.Keeps (fun k => k = b ∨ k = p ∨ k = g) w w' ∧ Dp.Side w' s b p g G vs vr (Dp.applyOp m kind n) := by
 obtain ⟨n1, n2, n3, n4, n5, n6, n7⟩ := h.ne
 go_enter Tryz.func32, Tryz.ntmps32
 go_wp2_with (refine Dp.wpList_box_row rfl 40 _ rfl (Dp.opCells kind n vA St which) rfl ?_)
 intro w1 r1 z1 k1
 have h1 := h.still k1
 clear h
 subst hk
 obtain ⟨o0, _, _, _, _⟩ := r1.ops
 go_wp2_with fail
 refine (lawLooked w1 s b p g G vs vr m h1).mono ?_
 rintro e w2 ⟨rfl, k2, h2⟩
 have HSS : Hid (Dp.Side w2 s b p g G vs vr (Dp.applyOp m 3 n)) := h2
 have HKK : Hid (Dp.Keeps (fun k => k = b ∨ k = p ∨ k = g) w w2) := (k1.mono (fun _ _ e => e.elim)).next k2 (fun _ _ e => .inr (.inl e))
 clear o0
 go_wp2
 go_ret
 exact ⟨rfl, HKK.out, HSS.out⟩

set_option maxRecDepth 100000 in
set_option maxHeartbeats 1000000 in
theorem lawStepNo (w : World) (W s b p g : Nat) (G : Nat → Prop) (vs vr : Value) (m : Dp.Mach) (kind n : Int) (vA : Value) (St : ByteArray) (which : Bool) (h : Dp.Side w s b p g G vs vr m) (hk : kind < 1) :
  Calls Tryz.prog 32 #[.pointer (some ⟨W, 0, none⟩), .pointer (some ⟨s, 0, none⟩), .agg (Dp.opCells kind n vA St which).toArray] w fun e w' => e = .returned (.bool true) ∧ Dp.Keeps (fun k => k = b ∨ k = p ∨ k = g) w w' ∧ Dp.Side w' s b p g G vs vr (Dp.applyOp m kind n) := by
 obtain ⟨n1, n2, n3, n4, n5, n6, n7⟩ := h.ne
 go_enter Tryz.func32, Tryz.ntmps32
 go_wp2_with (refine Dp.wpList_box_row rfl 40 _ rfl (Dp.opCells kind n vA St which) rfl ?_)
 intro w1 r1 z1 k1
 have h1 := h.still k1
 clear h
 obtain ⟨o0, _, _, _, _⟩ := r1.ops
 have e1 : kind ≠ 1 := by omega
 have e2 : kind ≠ 2 := by omega
 have e3 : kind ≠ 3 := by omega
 have e4 : kind ≠ 4 := by omega
 have e5 : kind ≠ 5 := by omega
 have e6 : kind ≠ 6 := by omega
 have e7 : kind ≠ 7 := by omega
 have e8 : kind ≠ 8 := by omega
 have e9 : kind ≠ 9 := by omega
 have HSS : Hid (Dp.Side w1 s b p g G vs vr (Dp.applyOp m kind n)) := by
  have e : Dp.applyOp m kind n = m := by unfold Dp.applyOp; rw [if_neg e1, if_neg (fun h => e2 h.1)]
  unfold Hid; rw [e]; exact h1
 have HKK : Hid (Dp.Keeps (fun k => k = b ∨ k = p ∨ k = g) w w1) := k1.mono (fun _ _ e => e.elim)
 go_wp2
 go_ret
 exact ⟨rfl, HKK.out, HSS.out⟩

end Go.Proofs.YtdipojfngdceoaaGreatDoor

/- A step of a script: cells and stamps. -/
namespace Go.Proofs.YtdipojfngdceoaaGreatDoor
open Go.RowKit

namespace Dp
theorem applyOp_same (m : Mach) (kind n : Int) (h1 : kind ≠ 1) (h2 : kind ≠ 2) : applyOp m kind n = m := by
 unfold applyOp; rw [if_neg h1, if_neg (fun h => h2 h.1)]
theorem RefM.cellAt {w : World} {p g : Nat} {vr : Value} {m : Mach} (h : RefM w p g vr m) (n : Nat) (hn : n < 256) : ∃ cap, w.cell? ⟨p, 14, none⟩ = some (.slice (some ⟨g, 0, none⟩) 256 cap) ∧ w.cell? ⟨g, n, none⟩ = some (.int .i64 (m.cell n)) := by
 obtain ⟨r, stale, tail, h1, h2, _⟩ := h.ex
 refine ⟨256 + tail.length, (h1.refC h.ok.s.len).2.2.2.2.2.2.1, ?_⟩
 have hl : n < m.cells.length := by rw [h.ok.len]; exact hn
 rw [h2.cell, List.getElem?_append_left (by simp [regCells]; exact hl)]
 simp [regCells, hl, Mach.cell]
end Dp

set_option maxRecDepth 100000 in
set_option maxHeartbeats 1000000 in
theorem lawStep4 (w : World) (W s b p g : Nat) (G : Nat → Prop) (vs vr : Value) (m : Dp.Mach) (kind n : Int) (vA : Value) (St : ByteArray) (which : Bool) (h : Dp.Side w s b p g G vs vr m) (hk : kind = 4) (N : Nat) (hnN : n = N) (hN : N < 256) :
  Calls Tryz.prog 32 #[.pointer (some ⟨W, 0, none⟩), .pointer (some ⟨s, 0, none⟩), .agg (Dp.opCells kind n vA St which).toArray] w fun e w' => e = .returned (.bool true) ∧ Dp.Keeps (fun k => k = b ∨ k = p ∨ k = g) w w' ∧ Dp.Side w' s b p g G vs vr (Dp.applyOp m kind n) := by
 obtain ⟨n1, n2, n3, n4, n5, n6, n7⟩ := h.ne
 go_enter Tryz.func32, Tryz.ntmps32
 go_wp2_with (refine Dp.wpList_box_row rfl 40 _ rfl (Dp.opCells kind n vA St which) rfl ?_)
 intro w1 r1 z1 k1
 have h1 := h.still k1
 clear h
 subst hk
 subst hnN
 obtain ⟨o0, o1, _, _, _⟩ := r1.ops
 have qx : ∀ wx, Dp.Keeps (fun _ => False) w1 wx → wx.cell? ⟨s, 0, none⟩ = some (.pointer (some ⟨b, 0, none⟩)) := fun wx kx => (h1.row.keep kx (fun e => e)).cell 0
 have qn : ∀ wx, Dp.Keeps (fun _ => False) w1 wx → wx.cell? ⟨w.heap.size, 1, none⟩ = some (.int .i64 (N : Int)) := fun wx kx => ((r1.keep kx (fun e => e)).ops).2.1
 have hS0 : Dp.Keeps (fun _ => False) w1 w1.drew := (Dp.Keeps.refl _ _).drew
 go_wp2
 clear o0
 refine Dp.wp_region_L (fun wx => Dp.Keeps (fun _ => False) w1 wx) 6 mixedP ?_
 refine' Dp.wpAnyL_take 0 rfl (by kernel_rfl) (fun _ _ _ h => h) (by rfl) ?hy0 hS0 ?rest0
 case hy0 => intro wx hSx; go_simp; try with_reducible rfl
 simp only [Act.put, Dp.tks]
 refine' Dp.wpAnyL_take 1 rfl (by kernel_rfl) (fun _ _ _ h => h) (by rfl) ?hy1 hS0 ?rest1
 case hy1 => intro wx hSx; go_simp; try with_reducible rfl
 simp only [Act.put, Dp.tks]
 refine' Dp.wpAnyL_take 2 rfl (by kernel_rfl) (fun _ _ _ h => h) (by rfl) ?hy2 hS0 ?rest2
 case hy2 => intro wx hSx; go_simp; try with_reducible rfl
 simp only [Act.put, Dp.tks]
 refine' Dp.wpAnyL_take 3 rfl (by kernel_rfl) (fun _ _ _ h => h) (by rfl) ?hy3 hS0 ?rest3
 case hy3 => intro wx hSx; go_simp; try with_reducible rfl
 simp only [Act.put, Dp.tks]
 refine' Dp.wpAnyL_take 4 rfl (by kernel_rfl) (fun _ _ _ h => h) (by rfl) ?hy4 hS0 ?rest4
 case hy4 => intro wx hSx; go_simp; try with_reducible rfl
 simp only [Act.put, Dp.tks]
 refine' Dp.wpAnyL_take 5 rfl (by kernel_rfl) (fun _ _ _ h => h) (by rfl) ?hy5 hS0 ?rest5
 case hy5 => intro wx hSx; go_simp; try with_reducible rfl
 simp only [Act.put, Dp.tks]
 refine Dp.wpAnyL_one 6 rfl (by kernel_rfl) (by rfl) (fun K hK => ?_)
 go_simp
 refine (progMCell w1.drew b G vs m (h1.still hS0).prog N (by omega)).mono ?_
 rintro e w2 ⟨rfl, hw2⟩
 have k2 : Dp.Keeps (fun _ => False) w1 w2 := by rw [hw2]; exact hS0
 clear hw2
 refine hK _ _ ⟨fun h => absurd h (Nat.lt_irrefl _), ?_⟩
 clear hK K
 refine Dp.wpAnyL_rest (by kernel_rfl) ?_
 refine' Dp.wpAny_pure 7 rfl (by kernel_rfl) (fun _ _ _ h => h) (.inl ⟨by rfl, ?hp7⟩) ?pest7
 case hp7 => intro wx; go_simp; try with_reducible rfl
 simp only [Act.put, Dp.tks]
 refine' Dp.wpAny_pure 8 rfl (by kernel_rfl) (fun _ _ _ h => h) (.inl ⟨by rfl, ?hp8⟩) ?pest8
 case hp8 => intro wx; go_simp; try with_reducible rfl
 simp only [Act.put, Dp.tks]
 refine' Dp.wpAny_pure 9 rfl (by kernel_rfl) (fun _ _ _ h => h) (.inl ⟨by rfl, ?hp9⟩) ?pest9
 case hp9 => intro wx; go_simp; try with_reducible rfl
 simp only [Act.put, Dp.tks]
 refine' Dp.wpAny_pure 10 rfl (by kernel_rfl) (fun _ _ _ h => h) (.inl ⟨by rfl, ?hp10⟩) ?pest10
 case hp10 => intro wx; go_simp; try with_reducible rfl
 simp only [Act.put, Dp.tks]
 refine' Dp.wpAny_pure 11 rfl (by kernel_rfl) (fun _ _ _ h => h) (.inl ⟨by rfl, ?hp11⟩) ?pest11
 case hp11 => intro wx; go_simp; try with_reducible rfl
 simp only [Act.put, Dp.tks]
 refine wpAny_done (by kernel_rfl) ?_ _
 have h2 := h1.still k2
 obtain ⟨_, o1', _, _, _⟩ := (r1.keep k2 (fun e => e)).ops
 clear qx qn o1
 obtain ⟨cap, c14, cg⟩ := h2.ref.cellAt N hN
 obtain ⟨d0, d1⟩ := h2.cells
 have HSS : Hid (Dp.Side w2.drew s b p g G vs vr (Dp.applyOp m 4 N)) := by
  unfold Hid; rw [Dp.applyOp_same m 4 N (by decide) (by decide)]; exact h2.still (Dp.Keeps.refl _ _).drew
 have HKK : Hid (Dp.Keeps (fun k => k = b ∨ k = p ∨ k = g) w w2.drew) := ((k1.trans k2).drew).mono (fun _ _ e => e.elim)
 generalize m.cell N = cx at *
 clear h1 h2
 have hn0 : ¬ (N : Int) < 0 := by omega
 have hn1 : ¬ (255 : Int) < (N : Int) := by omega
 go_wp2
 go_region
 go_wp2
 go_ret
 exact ⟨rfl, HKK.out, HSS.out⟩

set_option maxRecDepth 100000 in
set_option maxHeartbeats 1000000 in
theorem lawStep4Err (w : World) (W s b p g : Nat) (G : Nat → Prop) (vs vr : Value) (m : Dp.Mach) (kind n : Int) (vA : Value) (St : ByteArray) (which : Bool) (h : Dp.Side w s b p g G vs vr m) (hk : kind = 4) (hn : n < 0 ∨ 256 ≤ n) :
  Calls Tryz.prog 32 #[.pointer (some ⟨W, 0, none⟩), .pointer (some ⟨s, 0, none⟩), .agg (Dp.opCells kind n vA St which).toArray] w fun e w' => e = .returned (.bool true) ∧ Dp.Keeps (fun k => k = b ∨ k = p ∨ k = g) w w' ∧ Dp.Side w' s b p g G vs vr (Dp.applyOp m kind n) := by
 obtain ⟨n1, n2, n3, n4, n5, n6, n7⟩ := h.ne
 go_enter Tryz.func32, Tryz.ntmps32
 go_wp2_with (refine Dp.wpList_box_row rfl 40 _ rfl (Dp.opCells kind n vA St which) rfl ?_)
 intro w1 r1 z1 k1
 have h1 := h.still k1
 clear h
 subst hk
 obtain ⟨o0, o1, _, _, _⟩ := r1.ops
 have qx : ∀ wx, Dp.Keeps (fun _ => False) w1 wx → wx.cell? ⟨s, 0, none⟩ = some (.pointer (some ⟨b, 0, none⟩)) := fun wx kx => (h1.row.keep kx (fun e => e)).cell 0
 have qn : ∀ wx, Dp.Keeps (fun _ => False) w1 wx → wx.cell? ⟨w.heap.size, 1, none⟩ = some (.int .i64 n) := fun wx kx => ((r1.keep kx (fun e => e)).ops).2.1
 have hS0 : Dp.Keeps (fun _ => False) w1 w1.drew := (Dp.Keeps.refl _ _).drew
 go_wp2
 clear o0
 refine Dp.wp_region_L (fun wx => Dp.Keeps (fun _ => False) w1 wx) 6 mixedP ?_
 refine' Dp.wpAnyL_take 0 rfl (by kernel_rfl) (fun _ _ _ h => h) (by rfl) ?hy0 hS0 ?rest0
 case hy0 => intro wx hSx; go_simp; try with_reducible rfl
 simp only [Act.put, Dp.tks]
 refine' Dp.wpAnyL_take 1 rfl (by kernel_rfl) (fun _ _ _ h => h) (by rfl) ?hy1 hS0 ?rest1
 case hy1 => intro wx hSx; go_simp; try with_reducible rfl
 simp only [Act.put, Dp.tks]
 refine' Dp.wpAnyL_take 2 rfl (by kernel_rfl) (fun _ _ _ h => h) (by rfl) ?hy2 hS0 ?rest2
 case hy2 => intro wx hSx; go_simp; try with_reducible rfl
 simp only [Act.put, Dp.tks]
 refine' Dp.wpAnyL_take 3 rfl (by kernel_rfl) (fun _ _ _ h => h) (by rfl) ?hy3 hS0 ?rest3
 case hy3 => intro wx hSx; go_simp; try with_reducible rfl
 simp only [Act.put, Dp.tks]
 refine' Dp.wpAnyL_take 4 rfl (by kernel_rfl) (fun _ _ _ h => h) (by rfl) ?hy4 hS0 ?rest4
 case hy4 => intro wx hSx; go_simp; try with_reducible rfl
 simp only [Act.put, Dp.tks]
 refine' Dp.wpAnyL_take 5 rfl (by kernel_rfl) (fun _ _ _ h => h) (by rfl) ?hy5 hS0 ?rest5
 case hy5 => intro wx hSx; go_simp; try with_reducible rfl
 simp only [Act.put, Dp.tks]
 refine Dp.wpAnyL_one 6 rfl (by kernel_rfl) (by rfl) (fun K hK => ?_)
 go_simp
 refine (progMCellErr w1.drew b n hn).mono ?_
 rintro e w2 ⟨rfl, hw2⟩
 have k2 : Dp.Keeps (fun _ => False) w1 w2 := by rw [hw2]; exact hS0
 clear hw2
 refine hK _ _ ⟨fun h => absurd h (Nat.lt_irrefl _), ?_⟩
 clear hK K
 refine Dp.wpAnyL_rest (by kernel_rfl) ?_
 refine' Dp.wpAny_pure 7 rfl (by kernel_rfl) (fun _ _ _ h => h) (.inl ⟨by rfl, ?hp7⟩) ?pest7
 case hp7 => intro wx; go_simp; try with_reducible rfl
 simp only [Act.put, Dp.tks]
 refine' Dp.wpAny_pure 8 rfl (by kernel_rfl) (fun _ _ _ h => h) (.inl ⟨by rfl, ?hp8⟩) ?pest8
 case hp8 => intro wx; go_simp; try with_reducible rfl
 simp only [Act.put, Dp.tks]
 refine' Dp.wpAny_pure 9 rfl (by kernel_rfl) (fun _ _ _ h => h) (.inl ⟨by rfl, ?hp9⟩) ?pest9
 case hp9 => intro wx; go_simp; try with_reducible rfl
 simp only [Act.put, Dp.tks]
 refine' Dp.wpAny_pure 10 rfl (by kernel_rfl) (fun _ _ _ h => h) (.inl ⟨by rfl, ?hp10⟩) ?pest10
 case hp10 => intro wx; go_simp; try with_reducible rfl
 simp only [Act.put, Dp.tks]
 refine' Dp.wpAny_pure 11 rfl (by kernel_rfl) (fun _ _ _ h => h) (.inl ⟨by rfl, ?hp11⟩) ?pest11
 case hp11 => intro wx; go_simp; try with_reducible rfl
 simp only [Act.put, Dp.tks]
 refine wpAny_done (by kernel_rfl) ?_ _
 have h2 := h1.still k2
 obtain ⟨_, o1', _, _, _⟩ := (r1.keep k2 (fun e => e)).ops
 clear qx qn o1
 have HSS : Hid (Dp.Side w2 s b p g G vs vr (Dp.applyOp m 4 n)) := by
  unfold Hid; rw [Dp.applyOp_same m 4 n (by decide) (by decide)]; exact h2
 have HKK : Hid (Dp.Keeps (fun k => k = b ∨ k = p ∨ k = g) w w2) := (k1.trans k2).mono (fun _ _ e => e.elim)
 clear h1 h2
 rcases hn with hn | hn
 ·go_wp2
  go_ret
  exact ⟨rfl, HKK.out, HSS.out⟩
 ·have hn0 : ¬ n < 0 := by omega
  have hn1 : (255 : Int) < n := by omega
  go_wp2
  go_ret
  exact ⟨rfl, HKK.out, HSS.out⟩

set_option maxRecDepth 100000 in
set_option maxHeartbeats 1000000 in
theorem lawStep5 (w : World) (W s b p g : Nat) (G : Nat → Prop) (vs vr : Value) (m : Dp.Mach) (kind n : Int) (vA : Value) (St : ByteArray) (which : Bool) (h : Dp.Side w s b p g G vs vr m) (hk : kind = 5) :
  Calls Tryz.prog 32 #[.pointer (some ⟨W, 0, none⟩), .pointer (some ⟨s, 0, none⟩), .agg (Dp.opCells kind n vA St which).toArray] w fun e w' => e = .returned (.bool true) ∧ Dp.Keeps (fun k => k = b ∨ k = p ∨ k = g) w w' ∧ Dp.Side w' s b p g G vs vr (Dp.applyOp m kind n) := by
 obtain ⟨n1, n2, n3, n4, n5, n6, n7⟩ := h.ne
 go_enter Tryz.func32, Tryz.ntmps32
 go_wp2_with (refine Dp.wpList_box_row rfl 40 _ rfl (Dp.opCells kind n vA St which) rfl ?_)
 intro w1 r1 z1 k1
 have h1 := h.still k1
 clear h
 subst hk
 obtain ⟨o0, _, _, _, _⟩ := r1.ops
 have qx : ∀ wx, Dp.Keeps (fun k => k = p) w1 wx → wx.cell? ⟨s, 0, none⟩ = some (.pointer (some ⟨b, 0, none⟩)) := fun wx kx => (h1.row.keep kx n2).cell 0
 have qy : ∀ wx, Dp.Keeps (fun k => k = p) w1 wx → wx.cell? ⟨s, 1, none⟩ = some (.pointer (some ⟨p, 0, none⟩)) := fun wx kx => (h1.row.keep kx n2).cell 1
 have hS0 : Dp.Keeps (fun k => k = p) w1 w1.drew := (Dp.Keeps.refl _ _).drew
 have h1d := h1.still ((Dp.Keeps.refl (fun _ => False) w1).drew)
 go_wp2
 clear o0
 refine Dp.wp_region_L (fun wx => Dp.Keeps (fun k => k = p) w1 wx) 10 mixedP ?_
 refine' Dp.wpAnyL_take 0 rfl (by kernel_rfl) (fun _ _ _ h => h) (by rfl) ?hy0 hS0 ?rest0
 case hy0 => intro wx hSx; go_simp; try with_reducible rfl
 simp only [Act.put, Dp.tks]
 refine' Dp.wpAnyL_take 1 rfl (by kernel_rfl) (fun _ _ _ h => h) (by rfl) ?hy1 hS0 ?rest1
 case hy1 => intro wx hSx; go_simp; try with_reducible rfl
 simp only [Act.put, Dp.tks]
 refine' Dp.wpAnyL_take 2 rfl (by kernel_rfl) (fun _ _ _ h => h) (by rfl) ?hy2 hS0 ?rest2
 case hy2 => intro wx hSx; go_simp; try with_reducible rfl
 simp only [Act.put, Dp.tks]
 refine' Dp.wpAnyL_take 3 rfl (by kernel_rfl) (fun _ _ _ h => h) (by rfl) ?hy3 hS0 ?rest3
 case hy3 => intro wx hSx; go_simp; try with_reducible rfl
 simp only [Act.put, Dp.tks]
 refine' Dp.wpAnyL_take 5 rfl (by kernel_rfl) (fun _ _ _ h => h) (by rfl) ?hy5 hS0 ?rest5
 case hy5 => intro wx hSx; go_simp; try with_reducible rfl
 simp only [Act.put, Dp.tks]
 refine' Dp.wpAnyL_take 6 rfl (by kernel_rfl) (fun _ _ _ h => h) (by rfl) ?hy6 hS0 ?rest6
 case hy6 => intro wx hSx; go_simp; try with_reducible rfl
 simp only [Act.put, Dp.tks]
 refine' Dp.wpAnyL_take 7 rfl (by kernel_rfl) (fun _ _ _ h => h) (by rfl) ?hy7 hS0 ?rest7
 case hy7 => intro wx hSx; go_simp; try with_reducible rfl
 simp only [Act.put, Dp.tks]
 refine' Dp.wpAnyL_take 8 rfl (by kernel_rfl) (fun _ _ _ h => h) (by rfl) ?hy8 hS0 ?rest8
 case hy8 => intro wx hSx; go_simp; try with_reducible rfl
 simp only [Act.put, Dp.tks]
 refine Dp.wpAnyL_one 4 rfl (by kernel_rfl) (by rfl) (fun K hK => ?_)
 go_simp
 refine (progMStamp w1.drew b G vs m h1d.prog).mono ?_
 rintro e w2 ⟨rfl, kPw2⟩
 have kw2 : Dp.Keeps (fun k => k = p) w1.drew w2 := kPw2.mono (fun _ _ e => e.elim)
 have sw2 := h1d.still kPw2
 have hS2 := hS0.trans kw2
 refine hK _ _ ⟨fun _ => hS2, ?_⟩
 clear hK K
 refine Dp.wpAnyL_one 9 rfl (by kernel_rfl) (by rfl) (fun K hK => ?_)
 go_simp
 refine (refStamp w2 p g vr m sw2.ref).mono ?_
 rintro e w3 ⟨rfl, kw3, mw3⟩
 have sw3 : Dp.Side w3 s b p g G vs vr m := ⟨sw2.row.keep kw3 n2, sw2.prog.keep kw3 n4 (fun q hq => (sw2.apart q hq).1), mw3, sw2.apart⟩
 have hS3 := hS2.trans kw3
 refine hK _ _ ⟨fun _ => hS3, ?_⟩
 clear hK K
 refine Dp.wpAnyL_rest (by kernel_rfl) ?_
 refine Dp.wpAny_tail 10 rfl (by kernel_rfl) ?_
 simp only [List.drop_succ_cons, List.drop_zero]
 have HSS : Hid (Dp.Side w3 s b p g G vs vr (Dp.applyOp m 5 n)) := by
  unfold Hid; rw [Dp.applyOp_same m 5 n (by decide) (by decide)]; exact sw3
 have HKK : Hid (Dp.Keeps (fun k => k = b ∨ k = p ∨ k = g) w w3) := (k1.mono (fun _ _ e => e.elim)).next hS3 (fun _ _ e => .inr (.inl e))
 generalize Dp.stamp m.s (Dp.root m.cells) = sx at *
 clear qx qy
 go_wp2
 go_ret
 exact ⟨rfl, HKK.out, HSS.out⟩

theorem lawStep (w : World) (W s b p g : Nat) (G : Nat → Prop) (vs vr : Value) (m : Dp.Mach) (kind n : Int) (vA : Value) (St : ByteArray) (which : Bool) (h : Dp.Side w s b p g G vs vr m) (hk : kind ≤ 5) :
  Calls Tryz.prog 32 #[.pointer (some ⟨W, 0, none⟩), .pointer (some ⟨s, 0, none⟩), .agg (Dp.opCells kind n vA St which).toArray] w fun e w' => e = .returned (.bool true) ∧ Dp.Keeps (fun k => k = b ∨ k = p ∨ k = g) w w' ∧ Dp.Side w' s b p g G vs vr (Dp.applyOp m kind n) := by
 by_cases e0 : kind < 1
 ·exact lawStepNo w W s b p g G vs vr m kind n vA St which h e0
 rcases (by omega : kind = 1 ∨ kind = 2 ∨ kind = 3 ∨ kind = 4 ∨ kind = 5) with e | e | e | e | e
 ·exact lawStep1 w W s b p g G vs vr m kind n vA St which h e
 ·by_cases hn : n < 0 ∨ 100000 < n
  ·exact lawStep2Err w W s b p g G vs vr m kind n vA St which h e hn
  ·exact lawStep2 w W s b p g G vs vr m kind n vA St which h e n.toNat (by omega) (by omega)
 ·exact lawStep3 w W s b p g G vs vr m kind n vA St which h e
 ·by_cases hn : n < 0 ∨ 256 ≤ n
  ·exact lawStep4Err w W s b p g G vs vr m kind n vA St which h e hn
  ·exact lawStep4 w W s b p g G vs vr m kind n vA St which h e n.toNat (by omega) (by omega)
 ·exact lawStep5 w W s b p g G vs vr m kind n vA St which h e

end Go.Proofs.YtdipojfngdceoaaGreatDoor
