/- Steps on the way: LawStep2, LawPlay, LawPlay2, LawOpenA, LawOpenB, LawOpenC, LawOpenD. -/
import Derived.Test.YtdipojfngdceoaaGreatDoorShQ09
import Derived.Test.YtdipojfngdceoaaGreatDoorShQ19
import Derived.Test.YtdipojfngdceoaaGreatDoorShQ22
import Derived.Lib.SlBytesConst
namespace Go.Proofs.YtdipojfngdceoaaGreatDoor
open Go.RowKit
namespace Dp
theorem applyOp_same (m : Mach) (kind n : Int) (h1 : kind ≠ 1) (h2 : kind ≠ 2) : applyOp m kind n = m := by
 unfold applyOp; rw [if_neg h1, if_neg (fun h => h2 h.1)]
theorem RefM.cellAt {w : World} {p g : Nat} {vr : Value} {m : Mach} (h : RefM w p g vr m) (n : Nat) (hn : n < 256) : ∃ cap, w.cell? ⟨p, 14, none⟩ = some (.slice (some ⟨g, 0, none⟩) 256 cap) ∧ w.cell? ⟨g, n, none⟩ = some (.int .i64 (m.cell n)) := by
 obtain ⟨r, stale, tail, h1, h2, _⟩ := h.ex
 refine ⟨256 + tail.length, (h1.refC h.ok.s.len).2.2.2.2.2.2.1, ?_⟩
 have hl : n < m.cells.length := by rw [h.ok.len]; exact hn
 rw [h2.cell, List.getElem?_append_left (by simp [regCells]; exact hl)]
 simp [regCells, hl, Mach.cell]
end Dp
set_option maxRecDepth 100000 in
set_option maxHeartbeats 1000000 in
theorem lawStep4 (w : World) (W s b p g : Nat) (G : Nat → Prop) (vs vr : Value) (m : Dp.Mach) (kind n : Int) (vA : Value) (St : ByteArray) (which : Bool) (h : Dp.Side w s b p g G vs vr m) (hk : kind = 4) (N : Nat) (hnN : n = N) (hN : N < 256) :
  Calls Tryz.prog 32 #[.pointer (some ⟨W, 0, none⟩), .pointer (some ⟨s, 0, none⟩), .agg (Dp.opCells kind n vA St which).toArray] w fun e w' => e = .returned (.bool true) ∧ Dp.Keeps (fun k => k = b ∨ k = p ∨ k = g) w w' ∧ Dp.Side w' s b p g G vs vr (Dp.applyOp m kind n) := by
 obtain ⟨n1, n2, n3, n4, n5, n6, n7⟩ := h.ne
 go_enter Tryz.func32, Tryz.ntmps32
 go_wp2_with (refine Dp.wpList_box_row rfl 40 _ rfl (Dp.opCells kind n vA St which) rfl ?_)
 intro w1 r1 z1 k1
 have h1 := h.still k1
 clear h
 subst hk
 subst hnN
 obtain ⟨o0, o1, _, _, _⟩ := r1.ops
 have qx : ∀ wx, Dp.Keeps (fun _ => False) w1 wx → wx.cell? ⟨s, 0, none⟩ = some (.pointer (some ⟨b, 0, none⟩)) := fun wx kx => (h1.row.keep kx (fun e => e)).cell 0
 have qn : ∀ wx, Dp.Keeps (fun _ => False) w1 wx → wx.cell? ⟨w.heap.size, 1, none⟩ = some (.int .i64 (N : Int)) := fun wx kx => ((r1.keep kx (fun e => e)).ops).2.1
 have hS0 : Dp.Keeps (fun _ => False) w1 w1.drew := (Dp.Keeps.refl _ _).drew
 go_wp2
 clear o0
 refine Dp.wp_region_L (fun wx => Dp.Keeps (fun _ => False) w1 wx) 6 mixedP ?_
 refine' Dp.tj 0 hS0 ?_
 simp only [Act.put, Dp.tks]
 refine' Dp.tj 1 hS0 ?_
 simp only [Act.put, Dp.tks]
 refine' Dp.tj 2 hS0 ?_
 simp only [Act.put, Dp.tks]
 refine' Dp.tj 3 hS0 ?_
 simp only [Act.put, Dp.tks]
 refine' Dp.tj 4 hS0 ?_
 simp only [Act.put, Dp.tks]
 refine' Dp.tj 5 hS0 ?_
 simp only [Act.put, Dp.tks]
 refine Dp.wpAnyL_one 6 rfl (by kernel_rfl) (by rfl) (fun K hK => ?_)
 go_simp
 refine (progMCell w1.drew b G vs m (h1.still hS0).prog N (by omega)).mono ?_
 rintro e w2 ⟨rfl, hw2⟩
 have k2 : Dp.Keeps (fun _ => False) w1 w2 := by rw [hw2]; exact hS0
 clear hw2
 refine hK _ _ ⟨fun h => absurd h (Nat.lt_irrefl _), ?_⟩
 clear hK K
 refine Dp.wpAnyL_rest (by kernel_rfl) ?_
 refine' Dp.wpAny_pure 7 rfl (by kernel_rfl) (fun _ _ _ h => h) (.inl ⟨by rfl, ?hp7⟩) ?pest7
 case hp7 => intro wx; go_simp; try with_reducible rfl
 simp only [Act.put, Dp.tks]
 refine' Dp.wpAny_pure 8 rfl (by kernel_rfl) (fun _ _ _ h => h) (.inl ⟨by rfl, ?hp8⟩) ?pest8
 case hp8 => intro wx; go_simp; try with_reducible rfl
 simp only [Act.put, Dp.tks]
 refine' Dp.wpAny_pure 9 rfl (by kernel_rfl) (fun _ _ _ h => h) (.inl ⟨by rfl, ?hp9⟩) ?pest9
 case hp9 => intro wx; go_simp; try with_reducible rfl
 simp only [Act.put, Dp.tks]
 refine' Dp.wpAny_pure 10 rfl (by kernel_rfl) (fun _ _ _ h => h) (.inl ⟨by rfl, ?hp10⟩) ?pest10
 case hp10 => intro wx; go_simp; try with_reducible rfl
 simp only [Act.put, Dp.tks]
 refine' Dp.wpAny_pure 11 rfl (by kernel_rfl) (fun _ _ _ h => h) (.inl ⟨by rfl, ?hp11⟩) ?pest11
 case hp11 => intro wx; go_simp; try with_reducible rfl
 simp only [Act.put, Dp.tks]
 refine wpAny_done (by kernel_rfl) ?_ _
 have h2 := h1.still k2
 obtain ⟨_, o1', _, _, _⟩ := (r1.keep k2 (fun e => e)).ops
 clear qx qn o1
 obtain ⟨cap, c14, cg⟩ := h2.ref.cellAt N hN
 obtain ⟨d0, d1⟩ := h2.cells
 have HSS : Hid (Dp.Side w2.drew s b p g G vs vr (Dp.applyOp m 4 N)) := by
  unfold Hid; rw [Dp.applyOp_same m 4 N (by decide) (by decide)]; exact h2.still (Dp.Keeps.refl _ _).drew
 have HKK : Hid (Dp.Keeps (fun k => k = b ∨ k = p ∨ k = g) w w2.drew) := ((k1.trans k2).drew).mono (fun _ _ e => e.elim)
 generalize m.cell N = cx at *
 clear h1 h2
 have hn0 : ¬ (N : Int) < 0 := by omega
 have hn1 : ¬ (255 : Int) < (N : Int) := by omega
 go_wp2
 go_region
 go_wp2
 go_ret
 exact ⟨rfl, HKK.out, HSS.out⟩
set_option maxRecDepth 100000 in
set_option maxHeartbeats 1000000 in
theorem lawStep4Err (w : World) (W s b p g : Nat) (G : Nat → Prop) (vs vr : Value) (m : Dp.Mach) (kind n : Int) (vA : Value) (St : ByteArray) (which : Bool) (h : Dp.Side w s b p g G vs vr m) (hk : kind = 4) (hn : n < 0 ∨ 256 ≤ n) :
  Calls Tryz.prog 32 #[.pointer (some ⟨W, 0, none⟩), .pointer (some ⟨s, 0, none⟩), .agg (Dp.opCells kind n vA St which).toArray] w fun e w' => e = .returned (.bool true) ∧ Dp.Keeps (fun k => k = b ∨ k = p ∨ k = g) w w' ∧ Dp.Side w' s b p g G vs vr (Dp.applyOp m kind n) := by
 obtain ⟨n1, n2, n3, n4, n5, n6, n7⟩ := h.ne
 go_enter Tryz.func32, Tryz.ntmps32
 go_wp2_with (refine Dp.wpList_box_row rfl 40 _ rfl (Dp.opCells kind n vA St which) rfl ?_)
 intro w1 r1 z1 k1
 have h1 := h.still k1
 clear h
 subst hk
 obtain ⟨o0, o1, _, _, _⟩ := r1.ops
 have qx : ∀ wx, Dp.Keeps (fun _ => False) w1 wx → wx.cell? ⟨s, 0, none⟩ = some (.pointer (some ⟨b, 0, none⟩)) := fun wx kx => (h1.row.keep kx (fun e => e)).cell 0
 have qn : ∀ wx, Dp.Keeps (fun _ => False) w1 wx → wx.cell? ⟨w.heap.size, 1, none⟩ = some (.int .i64 n) := fun wx kx => ((r1.keep kx (fun e => e)).ops).2.1
 have hS0 : Dp.Keeps (fun _ => False) w1 w1.drew := (Dp.Keeps.refl _ _).drew
 go_wp2
 clear o0
 refine Dp.wp_region_L (fun wx => Dp.Keeps (fun _ => False) w1 wx) 6 mixedP ?_
 refine' Dp.tj 0 hS0 ?_
 simp only [Act.put, Dp.tks]
 refine' Dp.tj 1 hS0 ?_
 simp only [Act.put, Dp.tks]
 refine' Dp.tj 2 hS0 ?_
 simp only [Act.put, Dp.tks]
 refine' Dp.tj 3 hS0 ?_
 simp only [Act.put, Dp.tks]
 refine' Dp.tj 4 hS0 ?_
 simp only [Act.put, Dp.tks]
 refine' Dp.tj 5 hS0 ?_
 simp only [Act.put, Dp.tks]
 refine Dp.wpAnyL_one 6 rfl (by kernel_rfl) (by rfl) (fun K hK => ?_)
 go_simp
 refine (progMCellErr w1.drew b n hn).mono ?_
 rintro e w2 ⟨rfl, hw2⟩
 have k2 : Dp.Keeps (fun _ => False) w1 w2 := by rw [hw2]; exact hS0
 clear hw2
 refine hK _ _ ⟨fun h => absurd h (Nat.lt_irrefl _), ?_⟩
 clear hK K
 refine Dp.wpAnyL_rest (by kernel_rfl) ?_
 refine' Dp.wpAny_pure 7 rfl (by kernel_rfl) (fun _ _ _ h => h) (.inl ⟨by rfl, ?hp7⟩) ?pest7
 case hp7 => intro wx; go_simp; try with_reducible rfl
 simp only [Act.put, Dp.tks]
 refine' Dp.wpAny_pure 8 rfl (by kernel_rfl) (fun _ _ _ h => h) (.inl ⟨by rfl, ?hp8⟩) ?pest8
 case hp8 => intro wx; go_simp; try with_reducible rfl
 simp only [Act.put, Dp.tks]
 refine' Dp.wpAny_pure 9 rfl (by kernel_rfl) (fun _ _ _ h => h) (.inl ⟨by rfl, ?hp9⟩) ?pest9
 case hp9 => intro wx; go_simp; try with_reducible rfl
 simp only [Act.put, Dp.tks]
 refine' Dp.wpAny_pure 10 rfl (by kernel_rfl) (fun _ _ _ h => h) (.inl ⟨by rfl, ?hp10⟩) ?pest10
 case hp10 => intro wx; go_simp; try with_reducible rfl
 simp only [Act.put, Dp.tks]
 refine' Dp.wpAny_pure 11 rfl (by kernel_rfl) (fun _ _ _ h => h) (.inl ⟨by rfl, ?hp11⟩) ?pest11
 case hp11 => intro wx; go_simp; try with_reducible rfl
 simp only [Act.put, Dp.tks]
 refine wpAny_done (by kernel_rfl) ?_ _
 have h2 := h1.still k2
 obtain ⟨_, o1', _, _, _⟩ := (r1.keep k2 (fun e => e)).ops
 clear qx qn o1
 have HSS : Hid (Dp.Side w2 s b p g G vs vr (Dp.applyOp m 4 n)) := by
  unfold Hid; rw [Dp.applyOp_same m 4 n (by decide) (by decide)]; exact h2
 have HKK : Hid (Dp.Keeps (fun k => k = b ∨ k = p ∨ k = g) w w2) := (k1.trans k2).mono (fun _ _ e => e.elim)
 clear h1 h2
 rcases hn with hn | hn
 ·go_wp2
  go_ret
  exact ⟨rfl, HKK.out, HSS.out⟩
 ·have hn0 : ¬ n < 0 := by omega
  have hn1 : (255 : Int) < n := by omega
  go_wp2
  go_ret
  exact ⟨rfl, HKK.out, HSS.out⟩
set_option maxRecDepth 100000 in
set_option maxHeartbeats 1000000 in
theorem lawStep5 (w : World) (W s b p g : Nat) (G : Nat → Prop) (vs vr : Value) (m : Dp.Mach) (kind n : Int) (vA : Value) (St : ByteArray) (which : Bool) (h : Dp.Side w s b p g G vs vr m) (hk : kind = 5) :
  Calls Tryz.prog 32 #[.pointer (some ⟨W, 0, none⟩), .pointer (some ⟨s, 0, none⟩), .agg (Dp.opCells kind n vA St which).toArray] w fun e w' => e = .returned (.bool true) ∧ Dp.Keeps (fun k => k = b ∨ k = p ∨ k = g) w w' ∧ Dp.Side w' s b p g G vs vr (Dp.applyOp m kind n) := by
 obtain ⟨n1, n2, n3, n4, n5, n6, n7⟩ := h.ne
 go_enter Tryz.func32, Tryz.ntmps32
 go_wp2_with (refine Dp.wpList_box_row rfl 40 _ rfl (Dp.opCells kind n vA St which) rfl ?_)
 intro w1 r1 z1 k1
 have h1 := h.still k1
 clear h
 subst hk
 obtain ⟨o0, _, _, _, _⟩ := r1.ops
 have qx : ∀ wx, Dp.Keeps (fun k => k = p) w1 wx → wx.cell? ⟨s, 0, none⟩ = some (.pointer (some ⟨b, 0, none⟩)) := fun wx kx => (h1.row.keep kx n2).cell 0
 have qy : ∀ wx, Dp.Keeps (fun k => k = p) w1 wx → wx.cell? ⟨s, 1, none⟩ = some (.pointer (some ⟨p, 0, none⟩)) := fun wx kx => (h1.row.keep kx n2).cell 1
 have hS0 : Dp.Keeps (fun k => k = p) w1 w1.drew := (Dp.Keeps.refl _ _).drew
 have h1d := h1.still ((Dp.Keeps.refl (fun _ => False) w1).drew)
 go_wp2
 clear o0
 refine Dp.wp_region_L (fun wx => Dp.Keeps (fun k => k = p) w1 wx) 10 mixedP ?_
 refine' Dp.tj 0 hS0 ?_
 simp only [Act.put, Dp.tks]
 refine' Dp.tj 1 hS0 ?_
 simp only [Act.put, Dp.tks]
 refine' Dp.tj 2 hS0 ?_
 simp only [Act.put, Dp.tks]
 refine' Dp.tj 3 hS0 ?_
 simp only [Act.put, Dp.tks]
 refine' Dp.tj 5 hS0 ?_
 simp only [Act.put, Dp.tks]
 refine' Dp.tj 6 hS0 ?_
 simp only [Act.put, Dp.tks]
 refine' Dp.tj 7 hS0 ?_
 simp only [Act.put, Dp.tks]
 refine' Dp.tj 8 hS0 ?_
 simp only [Act.put, Dp.tks]
 refine Dp.wpAnyL_one 4 rfl (by kernel_rfl) (by rfl) (fun K hK => ?_)
 go_simp
 refine (progMStamp w1.drew b G vs m h1d.prog).mono ?_
 rintro e w2 ⟨rfl, kPw2⟩
 have kw2 : Dp.Keeps (fun k => k = p) w1.drew w2 := kPw2.mono (fun _ _ e => e.elim)
 have sw2 := h1d.still kPw2
 have hS2 := hS0.trans kw2
 refine hK _ _ ⟨fun _ => hS2, ?_⟩
 clear hK K
 refine Dp.wpAnyL_one 9 rfl (by kernel_rfl) (by rfl) (fun K hK => ?_)
 go_simp
 refine (refStamp w2 p g vr m sw2.ref).mono ?_
 rintro e w3 ⟨rfl, kw3, mw3⟩
 have sw3 : Dp.Side w3 s b p g G vs vr m := ⟨sw2.row.keep kw3 n2, sw2.prog.keep kw3 n4 (fun q hq => (sw2.apart q hq).1), mw3, sw2.apart⟩
 have hS3 := hS2.trans kw3
 refine hK _ _ ⟨fun _ => hS3, ?_⟩
 clear hK K
 refine Dp.wpAnyL_rest (by kernel_rfl) ?_
 refine Dp.wpAny_tail 10 rfl (by kernel_rfl) ?_
 simp only [List.drop_succ_cons, List.drop_zero]
 have HSS : Hid (Dp.Side w3 s b p g G vs vr (Dp.applyOp m 5 n)) := by
  unfold Hid; rw [Dp.applyOp_same m 5 n (by decide) (by decide)]; exact sw3
 have HKK : Hid (Dp.Keeps (fun k => k = b ∨ k = p ∨ k = g) w w3) := (k1.mono (fun _ _ e => e.elim)).next hS3 (fun _ _ e => .inr (.inl e))
 generalize Dp.stamp m.s (Dp.root m.cells) = sx at *
 clear qx qy
 go_wp2
 go_ret
 exact ⟨rfl, HKK.out, HSS.out⟩
theorem lawStep (w : World) (W s b p g : Nat) (G : Nat → Prop) (vs vr : Value) (m : Dp.Mach) (kind n : Int) (vA : Value) (St : ByteArray) (which : Bool) (h : Dp.Side w s b p g G vs vr m) (hk : kind ≤ 5) :
  Calls Tryz.prog 32 #[.pointer (some ⟨W, 0, none⟩), .pointer (some ⟨s, 0, none⟩), .agg (Dp.opCells kind n vA St which).toArray] w fun e w' => e = .returned (.bool true) ∧ Dp.Keeps (fun k => k = b ∨ k = p ∨ k = g) w w' ∧ Dp.Side w' s b p g G vs vr (Dp.applyOp m kind n) := by
 by_cases e0 : kind < 1
 ·exact lawStepNo w W s b p g G vs vr m kind n vA St which h e0
 rcases (by omega : kind = 1 ∨ kind = 2 ∨ kind = 3 ∨ kind = 4 ∨ kind = 5) with e | e | e | e | e
 ·exact lawStep1 w W s b p g G vs vr m kind n vA St which h e
 ·by_cases hn : n < 0 ∨ 100000 < n
  ·exact lawStep2Err w W s b p g G vs vr m kind n vA St which h e hn
  ·exact lawStep2 w W s b p g G vs vr m kind n vA St which h e n.toNat (by omega) (by omega)
 ·exact lawStep3 w W s b p g G vs vr m kind n vA St which h e
 ·by_cases hn : n < 0 ∨ 256 ≤ n
  ·exact lawStep4Err w W s b p g G vs vr m kind n vA St which h e hn
  ·exact lawStep4 w W s b p g G vs vr m kind n vA St which h e n.toNat (by omega) (by omega)
 ·exact lawStep5 w W s b p g G vs vr m kind n vA St which h e
namespace Dp
def Foot (b p g : Nat) : Nat → Prop := fun k => k = b ∨ k = p ∨ k = g
end Dp
set_option maxRecDepth 100000 in
set_option maxHeartbeats 1000000 in
theorem lawEnded (w : World) (W s b p g : Nat) (G : Nat → Prop) (vs vr : Value) (m : Dp.Mach) (h : Dp.Side w s b p g G vs vr m) :
  Calls Tryz.prog 34 #[.pointer (some ⟨W, 0, none⟩), .pointer (some ⟨s, 0, none⟩)] w fun e w' => e = .returned (.bool true) ∧ Dp.Keeps (Dp.Foot b p g) w w' ∧ Dp.Side w' s b p g G vs vr m := by
 go_enter Tryz.func34, Tryz.ntmps34
 go_wp2
 go_loopw [5, 6] (fun i _ wr => ∃ k : Nat, k ≤ 258 ∧ i = .int .i64 ((k : Int) - 1) ∧ Dp.Side wr s b p g G vs vr m ∧ Dp.Keeps (Dp.Foot b p g) w wr) (fun i _ _ => (257 - intOf i).toNat)
 case atStart => exact ⟨0, Nat.zero_le _, rfl, h, Dp.Keeps.refl _ _⟩
 case round =>
  obtain ⟨k, hk, rfl, hs, kk⟩ := hrel
  by_cases hlt : k < 258
  ·have hle : (k : Int) - 1 ≤ 256 := by omega
   go_wp2_with fail
   refine (lawStep wr W s b p g G vs vr m 4 ((k : Int) - 1) (.slice none 0 0) ⟨#[]⟩ false hs (by omega)).mono ?_
   rintro e w2 ⟨rfl, k2, h2⟩
   rw [Dp.applyOp_same m 4 _ (by decide) (by decide)] at h2
   have kk2 : Dp.Keeps (Dp.Foot b p g) w w2 := kk.trans k2
   go_wp2
   go_roundw
   case rel => exact ⟨k + 1, by omega, by go_num, h2, kk2⟩
   case measure => simp [intOf]; omega
  ·have hle : ¬ (k : Int) - 1 ≤ 256 := by omega
   go_wp2_with fail
   refine (lawStep wr W s b p g G vs vr m 5 0 (.slice none 0 0) ⟨#[]⟩ false hs (by omega)).mono ?_
   rintro e w2 ⟨rfl, k2, h2⟩
   rw [Dp.applyOp_same m 5 _ (by decide) (by decide)] at h2
   go_wp2_with fail
   refine (lawLooked w2 s b p g G vs vr m h2).mono ?_
   rintro e w3 ⟨rfl, k3, h3⟩
   have kk3 : Dp.Keeps (Dp.Foot b p g) w w3 := (kk.trans k2).next k3 (fun _ _ e => .inr (.inl e))
   go_wp2
   go_ret
   exact ⟨rfl, kk3, h3⟩
namespace Dp
structure SOp where
 kind : Int
 n : Int
 vA : Value
 St : ByteArray
 which : Bool
def SOp.cells (o : SOp) : List Value := opCells o.kind o.n o.vA o.St o.which
structure KeptOk (w : World) (W : Nat) (v0 v1 v2 v3 v4 v5 : Value) : Prop where
 row : Row w W 32 [v0, v1, v2, v3, v4, v5]
 l1 : ListsOf w v1 (fun i k => .int .u8 (digitN (i / 4 * 4) k : Int))
 l2 : ListsOf w v2 (fun _ _ => .int .u8 251)
 l3 : ListsOf w v3 (fun _ _ => .int .i64 (-7))
 l4 : ListsOf w v4 (fun _ k => .bool ((k : Int) % 2 == 0))
 l5 : TurnedLists w v5
end Dp
theorem zeroOp : (Tryz.prog.info? 40).map (fun i => i.zero) = some (some (.agg (Dp.opCells 0 0 (.slice none 0 0) ⟨#[]⟩ false).toArray)) := by kernel_rfl
theorem sizeOp : (Tryz.prog.info? 40).map (·.size) = some 5 := by kernel_rfl
namespace Dp
def nilV : Value := .slice none 0 0
def lentL (srcs : List (List UInt8)) (bs : List Nat) : List Value := List.zipWith (fun s b => Value.slice (some ⟨b, 0, none⟩) (s.length + 2) (s.length + 2)) srcs bs
def cutL (srcs : List (List UInt8)) (bs : List Nat) : List Value := List.zipWith (fun s b => Value.slice (some ⟨b, 0, none⟩) s.length (s.length + 2)) srcs bs
theorem zipWith_snoc {α β γ : Type} (f : α → β → γ) : ∀ (xs : List α) (ys : List β) (y : β) (h : ys.length < xs.length), List.zipWith f xs (ys ++ [y]) = List.zipWith f xs ys ++ [f xs[ys.length] y]
 | [], ys, y, h => by simp at h
 | x :: xs, [], y, _ => by simp
 | x :: xs, z :: ys, y, h => by
  have := zipWith_snoc f xs ys y (by simpa using h)
  simp [this]
theorem lentL_length (srcs : List (List UInt8)) (bs : List Nat) (h : bs.length ≤ srcs.length) : (lentL srcs bs).length = bs.length := by simp [lentL]; omega
theorem cutL_length (srcs : List (List UInt8)) (bs : List Nat) (h : bs.length ≤ srcs.length) : (cutL srcs bs).length = bs.length := by simp [cutL]; omega
theorem lentL_get (srcs : List (List UInt8)) (bs : List Nat) (i : Nat) (h1 : i < srcs.length) (h2 : i < bs.length) : (lentL srcs bs)[i]? = some (.slice (some ⟨bs[i], 0, none⟩) (srcs[i].length + 2) (srcs[i].length + 2)) := by
 simp [lentL, List.getElem?_zipWith, h1, h2]
theorem cutL_get (srcs : List (List UInt8)) (bs : List Nat) (i : Nat) (h1 : i < srcs.length) (h2 : i < bs.length) : (cutL srcs bs)[i]? = some (.slice (some ⟨bs[i], 0, none⟩) srcs[i].length (srcs[i].length + 2)) := by
 simp [cutL, List.getElem?_zipWith, h1, h2]
structure O1 (w : World) (vW vT : Value) (words : List Int) (srcs : List (List UInt8)) (bs : List Nat) (vo : Value) (wr : World) : Prop where
 made : Row wr w.heap.size 36 [vW, vT]
 l : Row wr (w.heap.size + 1) 3 (regCells words ++ [.int .i64 0])
 s : Row wr (w.heap.size + 2) 78 (cutL srcs bs ++ List.replicate (srcs.length + 1 - bs.length) nilV)
 own : Own wr 47 vo (lentL srcs bs)
 fresh : ∀ q, vo.ownBlock = some q → w.heap.size + 3 ≤ q
 low : ∀ b ∈ bs, w.heap.size + 3 ≤ b
 dup : bs.Nodup
 rows : ∀ i (h1 : i < srcs.length) (h2 : i < bs.length), Row wr bs[i] 5 (vals (srcs[i] ++ [252, 253]))
 keeps : Keeps (fun _ => False) w wr
theorem O1.still {w : World} {vW vT : Value} {words : List Int} {srcs : List (List UInt8)} {bs : List Nat} {vo : Value} {wr wx : World} (h : O1 w vW vT words srcs bs vo wr) (k : Keeps (fun _ => False) wr wx) : O1 w vW vT words srcs bs vo wx :=
 ⟨h.made.keep k (fun e => e), h.l.keep k (fun e => e), h.s.keep k (fun e => e), h.own.keep k (fun _ _ e => e), h.fresh, h.low, h.dup, fun i h1 h2 => (h.rows i h1 h2).keep k (fun e => e), h.keeps.trans k⟩
theorem O1.lt {w : World} {vW vT : Value} {words : List Int} {srcs : List (List UInt8)} {bs : List Nat} {vo : Value} {wr : World} (h : O1 w vW vT words srcs bs vo wr) (hb : bs.length ≤ srcs.length) : ∀ b ∈ bs, b < wr.heap.size := by
 intro b hm
 obtain ⟨i, hi, rfl⟩ := List.getElem_of_mem hm
 exact (h.rows i (by omega) hi).lt
theorem O1.step {w : World} {vW vT : Value} {words : List Int} {srcs : List (List UInt8)} {bs : List Nat} {vo vo' : Value} {wr w1 w2 : World} (h : O1 w vW vT words srcs bs vo wr) (hk : bs.length < srcs.length)
  (r1 : Row w1 wr.heap.size 5 (vals (srcs[bs.length] ++ [252, 253]))) (k1 : Keeps (fun _ => False) wr w1)
  (o2 : Own w2 47 vo' (lentL srcs bs ++ [.slice (some ⟨wr.heap.size, 0, none⟩) (srcs[bs.length].length + 2) (srcs[bs.length].length + 2)])) (k2 : Keeps (fun q => vo.ownBlock = some q) w1 w2)
  (f2 : vo'.ownBlock = vo.ownBlock ∨ ∀ q, vo'.ownBlock = some q → wr.heap.size ≤ q) :
  O1 w vW vT words srcs (bs ++ [wr.heap.size]) vo' (w2.setCell ⟨w.heap.size + 2, bs.length, none⟩ (.slice (some ⟨wr.heap.size, 0, none⟩) srcs[bs.length].length (srcs[bs.length].length + 2))) := by
 have h1 := h.still k1
 have hsz := h.s.lt
 have hno : ∀ q, q < w.heap.size + 3 → ¬ vo.ownBlock = some q := fun q hq e => by have := h.fresh q e; omega
 have kset : Keeps (fun q => q = w.heap.size + 2) w2 (w2.setCell ⟨w.heap.size + 2, bs.length, none⟩ (.slice (some ⟨wr.heap.size, 0, none⟩) srcs[bs.length].length (srcs[bs.length].length + 2))) := Keeps.setCell (S := fun q => q = w.heap.size + 2) (p := ⟨w.heap.size + 2, bs.length, none⟩) (Keeps.refl _ _) (.inr rfl) _
 have s2 := h1.s.keep k2 (hno _ (by omega))
 refine ⟨(h1.made.keep k2 (hno _ (by omega))).keep kset (show ¬ w.heap.size = w.heap.size + 2 by omega), (h1.l.keep k2 (hno _ (by omega))).keep kset (show ¬ w.heap.size + 1 = w.heap.size + 2 by omega), ?_, ?_, ?_, ?_, ?_, ?_, ?_⟩
 ·have hs := s2.set bs.length (.slice (some ⟨wr.heap.size, 0, none⟩) srcs[bs.length].length (srcs[bs.length].length + 2))
  have hl := cutL_length srcs bs (by omega)
  rw [List.set_append_right _ _ (by omega), hl, Nat.sub_self, show srcs.length + 1 - bs.length = (srcs.length + 1 - (bs.length + 1)) + 1 by omega, List.replicate_succ, List.set_cons_zero] at hs
  unfold cutL
  rw [zipWith_snoc _ _ _ _ hk, List.append_assoc, List.length_append]
  exact hs
 ·unfold lentL
  rw [zipWith_snoc _ _ _ _ hk]
  exact o2.keep kset (fun q hq e => o2.ne s2 (by decide) q hq e)
 ·intro q hq
  rcases f2 with e | e
  ·exact h.fresh q (e ▸ hq)
  ·have := e q hq; omega
 ·intro b hb
  rw [List.mem_append, List.mem_singleton] at hb
  rcases hb with hb | hb
  ·exact h.low b hb
  ·omega
 ·rw [List.nodup_append]
  refine ⟨h.dup, by simp, fun a ha b hb e => ?_⟩
  rw [List.mem_singleton] at hb
  have := h.lt (by omega) a ha
  omega
 ·intro i hi1 hi2
  have hun : ∀ (q : Nat) (l : List Value), Row w1 q 5 l → Row (w2.setCell ⟨w.heap.size + 2, bs.length, none⟩ (.slice (some ⟨wr.heap.size, 0, none⟩) srcs[bs.length].length (srcs[bs.length].length + 2))) q 5 l := by
   intro q l hq
   have h3 := hq.keep k2 (fun e => (h1.own.ne hq (by decide) q e) rfl)
   exact h3.keep kset (fun e => h3.ne s2 (by decide) e)
  by_cases hik : i < bs.length
  ·rw [List.getElem_append_left hik]
   exact hun _ _ (h1.rows i hi1 hik)
  ·have hie : i = bs.length := by rw [List.length_append, List.length_singleton] at hi2; omega
   subst hie
   rw [List.getElem_append_right (Nat.le_refl _)]
   simp only [Nat.sub_self, List.getElem_cons_zero]
   exact hun _ _ r1
 ·exact ((h.keeps.trans k1).next k2 (fun q hq e => hno q (by omega) e)).next kset (fun q hq e => by omega)
theorem O1.parts {w : World} {vW vT : Value} {words : List Int} {srcs : List (List UInt8)} {bs : List Nat} {vo : Value} {wr : World} (h : O1 w vW vT words srcs bs vo wr) (hb : bs.length = srcs.length) (hn : srcs.length ≤ 1048576) (hl : ∀ l ∈ srcs, l.length ≤ 1048576) (cap : Nat) : Parts wr (.slice (some ⟨w.heap.size + 2, 0, none⟩) srcs.length cap) srcs := by
 refine ⟨w.heap.size + 2, 0, some ⟨w.heap.size + 2, 0, none⟩, cap, rfl, by unfold maxLen; omega, fun _ => rfl, fun i hi => ?_⟩
 have hib : i < bs.length := by omega
 refine ⟨_, ?_, bs[i], 0, some ⟨bs[i], 0, none⟩, srcs[i].length + 2, rfl, ?_, fun _ => rfl, fun j hj => ?_⟩
 ·rw [h.s.cell, Nat.zero_add, List.getElem?_append_left (by rw [cutL_length _ _ (by omega)]; exact hib), cutL_get srcs bs i hi hib]
 ·have := hl _ (List.getElem_mem hi); unfold maxLen; omega
 ·have hr := h.rows i hi hib
  rw [hr.cell, Nat.zero_add]
  simp [vals, List.getElem?_append_left, hj]
end Dp
namespace Dp
def turnL (ts : List Nat) : List Value := ts.map fun t => Value.slice (some ⟨t, 0, none⟩) 6 6
def Marked (w : World) (t : Nat) : Prop := w.heap[t]? = some (.cells (vals turnedBytes).toArray 5 (6, 7))
theorem Marked.keep {S : Nat → Prop} {w w' : World} {t : Nat} (h : Marked w t) (k : Keeps S w w') (hs : ¬ S t) : Marked w' t := (k.block t (Array.getElem?_eq_some_iff.1 h).1 hs).trans h
structure O4 (w wB : World) (srcs : List (List UInt8)) (bs ts : List Nat) (wr : World) : Prop where
 s : Row wr (w.heap.size + 2) 78 (turnL ts ++ (cutL srcs bs ++ [nilV]).drop ts.length)
 rows : ∀ t ∈ ts, Marked wr t ∧ wB.heap.size ≤ t
 keeps : Keeps (fun q => q = w.heap.size + 2) wB wr
theorem O4.step {w wB : World} {srcs : List (List UInt8)} {bs ts : List Nat} {wr : World} (h : O4 w wB srcs bs ts wr) (hwB : w.heap.size + 2 < wB.heap.size) (hk : ts.length < (cutL srcs bs ++ [nilV]).length) :
  O4 w wB srcs bs (ts ++ [wr.heap.size]) ((wr.alloc (.cells (vals turnedBytes).toArray 5 (6, 7))).setCell ⟨w.heap.size + 2, ts.length, none⟩ (.slice (some ⟨wr.heap.size, 0, none⟩) 6 6)) := by
 have ka := (Keeps.refl (fun _ => False) wr).alloc (.cells (vals turnedBytes).toArray 5 (6, 7))
 have kset : Keeps (fun q => q = w.heap.size + 2) (wr.alloc (.cells (vals turnedBytes).toArray 5 (6, 7))) ((wr.alloc (.cells (vals turnedBytes).toArray 5 (6, 7))).setCell ⟨w.heap.size + 2, ts.length, none⟩ (.slice (some ⟨wr.heap.size, 0, none⟩) 6 6)) := Keeps.setCell (S := fun q => q = w.heap.size + 2) (p := ⟨w.heap.size + 2, ts.length, none⟩) (Keeps.refl _ _) (.inr rfl) _
 have hsz := h.keeps.size
 have s1 := h.s.keep ka (fun e => e)
 refine ⟨?_, ?_, ?_⟩
 ·have hs := s1.set ts.length (.slice (some ⟨wr.heap.size, 0, none⟩) 6 6)
  have hl : (turnL ts).length = ts.length := by simp [turnL]
  rw [List.set_append_right _ _ (by omega), hl, Nat.sub_self, List.drop_eq_getElem_cons hk, List.set_cons_zero] at hs
  have e1 : turnL (ts ++ [wr.heap.size]) = turnL ts ++ [.slice (some ⟨wr.heap.size, 0, none⟩) 6 6] := by simp [turnL]
  rw [e1, List.length_append, List.length_singleton, List.append_assoc]
  exact hs
 ·intro t ht
  rw [List.mem_append, List.mem_singleton] at ht
  rcases ht with ht | ht
  ·obtain ⟨h1, h2⟩ := h.rows t ht
   exact ⟨(h1.keep ka (fun e => e)).keep kset (by omega), h2⟩
  ·subst ht
   have hm : Marked (wr.alloc (.cells (vals turnedBytes).toArray 5 (6, 7))) wr.heap.size := heap_alloc_new wr _
   exact ⟨hm.keep kset (by omega), hsz⟩
 ·exact (h.keeps.next ka (fun _ _ e => e.elim)).setCell (p := ⟨w.heap.size + 2, ts.length, none⟩) (.inr rfl) _
end Dp
namespace Dp
theorem own_sliceOf {w : World} {e : TypeId} {v : Value} {xs : List Value} (h : Own w e v xs) (hx : xs.length ≤ 16777216) : SliceOf w v xs.length (fun k => xs.getD k undef) := by
 rcases h with ⟨rfl, rfl⟩ | ⟨g, tail, rfl, r, _⟩
 ·exact ⟨0, 0, none, 0, rfl, by simp, fun h => absurd h (by simp), fun k hk => absurd hk (by simp)⟩
 ·refine ⟨g, 0, some ⟨g, 0, none⟩, _, rfl, hx, fun _ => rfl, fun k hk => ?_⟩
  show _ = some (xs.getD k undef)
  rw [r.cell, Nat.zero_add, List.getElem?_append_left hk, List.getD_eq_getElem?_getD, List.getElem?_eq_getElem hk]
  rfl
theorem row_sliceOf {w : World} {g : Nat} {e : TypeId} {cs : List Value} (h : Row w g e cs) (n cap : Nat) (hn : n ≤ 16777216) (f : Nat → Value) (hf : ∀ k, k < n → cs[k]? = some (f k)) : SliceOf w (.slice (some ⟨g, 0, none⟩) n cap) n f :=
 ⟨g, 0, some ⟨g, 0, none⟩, cap, rfl, hn, fun _ => rfl, fun k hk => by rw [h.cell, Nat.zero_add]; exact hf k hk⟩
theorem nil_sliceOf (w : World) (f : Nat → Value) : SliceOf w nilV 0 f := ⟨0, 0, none, 0, rfl, by simp, fun h => absurd h (by simp), fun k hk => absurd hk (by omega)⟩
structure Opened (w : World) (W lb sb : Nat) (v0 v2 v3 v5 : Value) (n : Nat) (srcs : List (List UInt8)) (bs ts : List Nat) : Prop where
 row : Row w W 32 [v0, nilV, v2, v3, nilV, v5]
 own2 : Own w 47 v2 (lentL srcs bs)
 turned : ∀ i (h1 : i < srcs.length) (h2 : i < bs.length), Row w bs[i] 5 (List.replicate (srcs[i].length + 2) (.int .u8 251))
 own3 : Own w 22 v3 [.slice (some ⟨lb, 0, none⟩) (n + 1) (n + 1)]
 l : Row w lb 3 (List.replicate (n + 1) (.int .i64 (-7)))
 own5 : Own w 76 v5 [.slice (some ⟨sb, 0, none⟩) (srcs.length + 1) (srcs.length + 1)]
 s : Row w sb 78 (turnL ts)
 marks : ∀ t ∈ ts, Marked w t
 hbl : bs.length = srcs.length
 htl : ts.length = srcs.length + 1
theorem Opened.keep {S : Nat → Prop} {w w' : World} {W lb sb : Nat} {v0 v2 v3 v5 : Value} {n : Nat} {srcs : List (List UInt8)} {bs ts : List Nat} (h : Opened w W lb sb v0 v2 v3 v5 n srcs bs ts) (k : Keeps S w w') (hW : ¬ S W) (h2 : ∀ q, v2.ownBlock = some q → ¬ S q) (hb : ∀ q ∈ bs, ¬ S q) (h3 : ∀ q, v3.ownBlock = some q → ¬ S q) (hl : ¬ S lb) (h5 : ∀ q, v5.ownBlock = some q → ¬ S q) (hs : ¬ S sb) (ht : ∀ q ∈ ts, ¬ S q) : Opened w' W lb sb v0 v2 v3 v5 n srcs bs ts :=
 ⟨h.row.keep k hW, h.own2.keep k h2, fun i h1 h2 => (h.turned i h1 h2).keep k (hb _ (List.getElem_mem h2)), h.own3.keep k h3, h.l.keep k hl, h.own5.keep k h5, h.s.keep k hs, fun t htm => (h.marks t htm).keep k (ht t htm), h.hbl, h.htl⟩
theorem Opened.kept {w : World} {W lb sb : Nat} {v0 v2 v3 v5 : Value} {n : Nat} {srcs : List (List UInt8)} {bs ts : List Nat} (h : Opened w W lb sb v0 v2 v3 v5 n srcs bs ts) (hn : n ≤ 1048576) (hm : srcs.length ≤ 1048576) (hl : ∀ l ∈ srcs, l.length ≤ 1048576) : KeptOk w W v0 nilV v2 v3 nilV v5 := by
 have hll := lentL_length srcs bs (by rw [h.hbl]; exact Nat.le_refl _)
 have hbl := h.hbl
 have htl := h.htl
 refine ⟨h.row, ⟨0, fun _ => undef, nil_sliceOf w _, fun i hi => absurd hi (by omega)⟩, ⟨_, _, own_sliceOf h.own2 (by omega), fun i hi => ?_⟩, ⟨_, _, own_sliceOf h.own3 (by simp), fun i hi => ?_⟩, ⟨0, fun _ => undef, nil_sliceOf w _, fun i hi => absurd hi (by omega)⟩, ⟨_, _, own_sliceOf h.own5 (by simp), fun i hi => ?_⟩⟩
 ·have hi1 : i < srcs.length := by omega
  have hi2 : i < bs.length := by omega
  have hg := lentL_get srcs bs i hi1 hi2
  have hlen := hl _ (List.getElem_mem hi1)
  refine ⟨srcs[i].length + 2, ?_⟩
  have e : (lentL srcs bs).getD i undef = .slice (some ⟨bs[i], 0, none⟩) (srcs[i].length + 2) (srcs[i].length + 2) := by rw [List.getD_eq_getElem?_getD, hg]; rfl
  show SliceOf w ((lentL srcs bs).getD i undef) _ _
  rw [e]
  exact row_sliceOf (h.turned i hi1 hi2) _ _ (by omega) _ (fun k hk => by rw [List.getElem?_replicate, if_pos hk])
 ·obtain rfl : i = 0 := by simpa using hi
  exact ⟨n + 1, row_sliceOf h.l _ _ (by omega) _ (fun k hk => by rw [List.getElem?_replicate, if_pos hk])⟩
 ·obtain rfl : i = 0 := by simpa using hi
  refine ⟨srcs.length + 1, fun k => (turnL ts).getD k undef, row_sliceOf h.s _ _ (by omega) _ (fun k hk => ?_), fun k hk => ?_⟩
  ·have hk' : k < (turnL ts).length := by simp [turnL]; omega
   show _ = some ((turnL ts).getD k undef)
   rw [List.getD_eq_getElem?_getD, List.getElem?_eq_getElem hk']
   rfl
  ·have hk' : k < ts.length := by omega
   refine ⟨ts[k], 0, 6, ?_, fun j hj => ?_⟩
   ·show (turnL ts).getD k undef = _
    rw [List.getD_eq_getElem?_getD]; simp [turnL, hk']
   ·have hm := h.marks _ (List.getElem_mem hk')
    unfold Marked at hm
    rw [add_zero_off]
    simp [World.cell?, hm, vals, hj]
theorem Marked.ne {w : World} {t b : Nat} {e : TypeId} {cs : List Value} (h : Marked w t) (k : Row w b e cs) : t ≠ b := by
 intro e1
 subst e1
 unfold Marked at h
 unfold Row at k
 rw [h] at k
 simp at k
theorem Opened.all {w : World} {W lb sb sg scap : Nat} {v2 v3 v5 : Value} {n : Nat} {srcs : List (List UInt8)} {bs ts : List Nat} {s b p g : Nat} {G : Nat → Prop} {vs vr : Value} {m : Mach} {stail : List Value} (h : Opened w W lb sb (.slice (some ⟨sg, 0, none⟩) 1 scap) v2 v3 v5 n srcs bs ts) (hs : Side w s b p g G vs vr m) (hg : Row w sg 71 ([.pointer (some ⟨s, 0, none⟩)] ++ stail))
  (NN : Nat) (hb : NN ≤ b ∧ NN ≤ p ∧ NN ≤ g) (hW : W < NN) (hl : lb < NN) (hsb : sb < NN) (hbs : ∀ q ∈ bs, q < NN) (hn : n ≤ 1048576) (hm : srcs.length ≤ 1048576) (hll : ∀ l ∈ srcs, l.length ≤ 1048576) :
  ∀ w', Keeps (Foot b p g) w w' → KeptOk w' W (.slice (some ⟨sg, 0, none⟩) 1 scap) nilV v2 v3 nilV v5 ∧ w'.cell? ⟨sg, 0, none⟩ = some (.pointer (some ⟨s, 0, none⟩)) := by
 intro w' k
 obtain ⟨⟨c1, r1⟩, ⟨c2, r2⟩⟩ := hs.ref.rows
 have r0 := hs.prog.row
 have hlt : ∀ q, q < NN → ¬ Foot b p g q := by
  rintro q hq (e | e | e) <;> omega
 have hop := h.keep k (hlt W hW) (fun q hq => by
  rintro (e | e | e)
  ·exact h.own2.ne r0 (by decide) q hq e
  ·exact h.own2.ne r1 (by decide) q hq e
  ·exact h.own2.ne r2 (by decide) q hq e) (fun q hq => hlt q (hbs q hq)) (fun q hq => by
  rintro (e | e | e)
  ·exact h.own3.ne r0 (by decide) q hq e
  ·exact h.own3.ne r1 (by decide) q hq e
  ·exact h.own3.ne r2 (by decide) q hq e) (hlt lb hl) (fun q hq => by
  rintro (e | e | e)
  ·exact h.own5.ne r0 (by decide) q hq e
  ·exact h.own5.ne r1 (by decide) q hq e
  ·exact h.own5.ne r2 (by decide) q hq e) (hlt sb hsb) (fun q hq => by
  have hmk := h.marks q hq
  rintro (e | e | e)
  ·exact hmk.ne r0 e
  ·exact hmk.ne r1 e
  ·exact hmk.ne r2 e)
 refine ⟨hop.kept hn hm hll, ?_⟩
 have hg' := hg.keep k (by
  rintro (e | e | e)
  ·exact hg.ne r0 (by decide) e
  ·exact hg.ne r1 (by decide) e
  ·exact hg.ne r2 (by decide) e)
 exact hg'.cell 0
end Dp
namespace Dp
theorem Texts.still {w w' : World} {v : Value} {l : List (List UInt8)} (h : Texts w v l) (k : Keeps (fun _ => False) w w') : Texts w' v l := by
 obtain ⟨b, o, ad, cap, h1, h2, h3, h4⟩ := h
 exact ⟨b, o, ad, cap, h1, h2, fun e => ⟨(h3 e).1, Nat.lt_of_lt_of_le (h3 e).2 k.size⟩, fun j hj => ⟨(h4 j hj).1, (k.cell (p := ⟨b, o + j, none⟩) (cell_lt (h4 j hj).2) (fun e => e)).trans (h4 j hj).2⟩⟩
theorem regCells_one (l : List Int) : ∀ v ∈ regCells l, v.oneCell' = true := by
 intro v hv
 simp only [regCells, List.mem_map] at hv
 obtain ⟨x, _, rfl⟩ := hv
 rfl
end Dp
theorem infoSideP : (Tryz.prog.info? 71).map (fun i => (i.zero, i.size, i.bytes)) = some (some (.pointer none), 1, 8) := by kernel_rfl
theorem infoInts : (Tryz.prog.info? 22).map (fun i => (i.zero, i.size, i.bytes)) = some (some (.slice none 0 0), 1, 24) := by kernel_rfl
theorem infoSources : (Tryz.prog.info? 76).map (fun i => (i.zero, i.size, i.bytes)) = some (some (.slice none 0 0), 1, 24) := by kernel_rfl
theorem sizeInt1 : (Tryz.prog.info? 3).map (·.size) = some 1 := by kernel_rfl
end Go.Proofs.YtdipojfngdceoaaGreatDoor
