/- Steps on the way: RefTwin, RefProof. -/
import Derived.Test.YtdipojfngdceoaaGreatDoorShP03
import Derived.Test.YtdipojfngdceoaaGreatDoorShP07
import Derived.Test.YtdipojfngdceoaaGreatDoorShP09
import Derived.Test.YtdipojfngdceoaaGreatDoorShP17
import Derived.Test.YtdipojfngdceoaaGreatDoorShP20
import Derived.Test.YtdipojfngdceoaaGreatDoorShP33
import Derived.Test.YtdipojfngdceoaaGreatDoorProg
import Derived.WalkKit
import Derived.WalkSpells
import Derived.WalkLawsBesides
/- The document's answer: the machine once more. -/
namespace Go.Proofs.YtdipojfngdceoaaGreatDoor
open Go.RowKit

namespace Dp
theorem wpList_build_three {P : Program} {w : World} {ops : Array Oper} {rest : List Oper} {o : Oper} {a : Act} {Q : Exit → Act → World → Prop} (hgd : o.guard = none) (t : TypeId) (i j k : Nat) (x y z : Operand) (ho : o.op = .build t #[(i, x), (j, y), (k, z)]) (u1 u2 u3 v : Value) (hx : a.eval x = u1) (hy : a.eval y = u2) (hz : a.eval z = u3)
  (hrun : (Instr.build t #[(i, u1), (j, u2), (k, u3)]).run P w = .ok v w) (h : Hid True → wpList P ops Q rest (a.put o.dst v) w) : wpList P ops Q (o :: rest) a w := by
 refine wpList_plain hgd fun K hK => ?_
 have e : (execOp a.eval o).run P w = .ok (.value v) w := by
  unfold execOp
  simp only [ho, List.map_toArray, List.map_cons, List.map_nil, hx, hy, hz, Sem.run_bind, hrun, Result.andThen_ok, Sem.run_pure]
 unfold Oper.wp
 rw [e]
 exact hK _ _ (h trivial)
theorem eight_of {l : List Int} (h : l.length = 8) : ∃ a b c d e f g i, l = [a, b, c, d, e, f, g, i] := by
 match l, h with
 | [a, b, c, d, e, f, g, i], _ => exact ⟨a, b, c, d, e, f, g, i, rfl⟩
end Dp
theorem buildTwin (s : Dp.Cs) (hl : s.regs.length = 8) (r : Int) (stale : Bool) (ad : Option Addr) (n cap : Nat) (w : World) :
  (Instr.build 113 #[(0, .agg (Dp.stCells s r).toArray), (1, .bool stale), (3, .slice ad n cap)]).run Tryz.prog w = .ok (.agg (Dp.refCells s r stale (.slice none 0 0) (.slice ad n cap)).toArray) w := by
 obtain ⟨pc, steps, code, over, regs⟩ := s
 obtain ⟨a, b, c, d, e, f, g, i, rfl⟩ := Dp.eight_of hl
 kernel_rfl

set_option maxRecDepth 100000 in
set_option maxHeartbeats 1000000 in
theorem refTwin (w : World) (p g : Nat) (vs : Value) (m : Dp.Mach) (h : Dp.RefM w p g vs m) :
  Calls Tryz.prog 93 #[.pointer (some ⟨p, 0, none⟩)] w fun e w' => ∃ p' g', e = .returned (.pointer (some ⟨p', 0, none⟩)) ∧ w.heap.size ≤ p' ∧ w.heap.size ≤ g' ∧ Dp.Keeps (fun _ => False) w w' ∧ Dp.RefM w' p' g' vs m := by
 obtain ⟨hok, ⟨r, stale, tail, h1, h2, h3, h4, h5, h6⟩, h7⟩ := h
 have hl := hok.s.len
 have HOK := Hid.mk_ hok
 have H3 := Hid.mk_ h3
 have H7 := Hid.mk_ h7
 obtain ⟨sa, sc, esv⟩ := h7.isSlice
 generalize hsn : (Dp.strCells m.srcs).length = sn at *
 clear hsn
 subst esv
 have hS0 : Dp.Keeps (fun _ => False) w w.drew := (Dp.Keeps.refl _ _).drew
 have HL0 : Hid (∀ wx, Dp.Keeps (fun _ => False) w wx → (Instr.loadAt 74 (.pointer (some ⟨p, 0, none⟩))).run Tryz.prog wx = .ok (.agg (Dp.stCells m.s r).toArray) wx) := fun wx kx => runLoadSt (h1.keep kx (fun e => e)) hl
 have q13 : ∀ wx, Dp.Keeps (fun _ => False) w wx → wx.cell? ⟨p, 13, none⟩ = some (.bool stale) := fun wx kx => ((h1.keep kx (fun e => e)).refC hl).2.2.2.2.2.1
 have q15 : ∀ wx, Dp.Keeps (fun _ => False) w wx → wx.cell? ⟨p, 15, none⟩ = some (.slice sa sn sc) := fun wx kx => ((h1.keep kx (fun e => e)).refC hl).2.2.2.2.2.2.2
 have HBT : Hid (∀ wx, (Instr.build 113 #[(0, .agg (Dp.stCells m.s r).toArray), (1, .bool stale), (3, .slice sa sn sc)]).run Tryz.prog wx = .ok (.agg (Dp.refCells m.s r stale (.slice none 0 0) (.slice sa sn sc)).toArray) wx) := fun wx => buildTwin m.s hl r stale sa sn sc wx
 have H1 := Hid.mk_ h1
 have H2 := Hid.mk_ h2
 have hp := h1.lt
 have hg := h2.lt
 obtain ⟨RC, hRC⟩ : ∃ RC, RC = Dp.refCells m.s r stale (.slice none 0 0) (.slice sa sn sc) := ⟨_, rfl⟩
 rw [← hRC] at HBT
 have HRC := Hid.mk_ hRC
 generalize (Dp.stCells m.s r).toArray = SC at HL0 HBT
 clear h1 h2 h3 h7 hok hRC
 go_enter Tryz.func93, Tryz.ntmps93
 go_wp2
 refine Dp.wp_region_L (fun wx => Dp.Keeps (fun _ => False) w wx) 12 mixedZ ?_
 refine' Dp.wpAnyL_take 0 rfl (by kernel_rfl) (fun _ _ _ h => h) (by rfl) ?hya0 hS0 ?resta0
 case hya0 => intro wx hSx; go_simp; try with_reducible rfl
 simp only [Act.put, Dp.tks]
 refine' Dp.wpAnyL_take 1 rfl (by kernel_rfl) (fun _ _ _ h => h) (by rfl) ?hya1 hS0 ?resta1
 case hya1 => intro wx hSx; go_simp; try with_reducible rfl
 simp only [Act.put, Dp.tks]
 refine' Dp.wpAnyL_take 2 rfl (by kernel_rfl) (fun _ _ _ h => h) (by rfl) ?hya2 hS0 ?resta2
 case hya2 => intro wx hSx; go_simp; try with_reducible rfl
 simp only [Act.put, Dp.tks]
 refine' Dp.wpAnyL_take (v := .agg SC) 3 rfl (by kernel_rfl) (fun _ _ _ h => h) (by rfl) ?hyp3 hS0 ?restp3
 case hyp3 => intro wx hSx; exact Dp.run_load_op rfl rfl (HL0.out wx hSx)
 simp only [Act.put, Dp.tks]
 refine' Dp.wpAnyL_take 4 rfl (by kernel_rfl) (fun _ _ _ h => h) (by rfl) ?hyb4 hS0 ?restb4
 case hyb4 => intro wx hSx; go_simp; try with_reducible rfl
 simp only [Act.put, Dp.tks]
 refine' Dp.wpAnyL_take 5 rfl (by kernel_rfl) (fun _ _ _ h => h) (by rfl) ?hyb5 hS0 ?restb5
 case hyb5 => intro wx hSx; go_simp; try with_reducible rfl
 simp only [Act.put, Dp.tks]
 refine' Dp.wpAnyL_take 6 rfl (by kernel_rfl) (fun _ _ _ h => h) (by rfl) ?hyb6 hS0 ?restb6
 case hyb6 => intro wx hSx; go_simp; try with_reducible rfl
 simp only [Act.put, Dp.tks]
 refine' Dp.wpAnyL_take 7 rfl (by kernel_rfl) (fun _ _ _ h => h) (by rfl) ?hyb7 hS0 ?restb7
 case hyb7 => intro wx hSx; go_simp; try with_reducible rfl
 simp only [Act.put, Dp.tks]
 refine' Dp.wpAnyL_take 8 rfl (by kernel_rfl) (fun _ _ _ h => h) (by rfl) ?hyb8 hS0 ?restb8
 case hyb8 => intro wx hSx; go_simp; try with_reducible rfl
 simp only [Act.put, Dp.tks]
 refine' Dp.wpAnyL_take 9 rfl (by kernel_rfl) (fun _ _ _ h => h) (by rfl) ?hyb9 hS0 ?restb9
 case hyb9 => intro wx hSx; go_simp; try with_reducible rfl
 simp only [Act.put, Dp.tks]
 refine' Dp.wpAnyL_take 10 rfl (by kernel_rfl) (fun _ _ _ h => h) (by rfl) ?hyb10 hS0 ?restb10
 case hyb10 => intro wx hSx; go_simp; try with_reducible rfl
 simp only [Act.put, Dp.tks]
 refine' Dp.wpAnyL_take 11 rfl (by kernel_rfl) (fun _ _ _ h => h) (by rfl) ?hyb11 hS0 ?restb11
 case hyb11 => intro wx hSx; go_simp; try with_reducible rfl
 simp only [Act.put, Dp.tks]
 refine Dp.wpAnyL_rest (by kernel_rfl) ?_
 refine Dp.wpAny_tail 12 rfl (by kernel_rfl) ?_
 simp only [List.drop_succ_cons, List.drop_zero]
 go_wp2_with (refine Dp.wpList_build_three rfl 113 0 1 3 _ _ _ rfl (.agg SC) (.bool stale) (.slice sa sn sc) (.agg RC.toArray) rfl rfl rfl (HBT.out w.drew) ?_; intro _)
 have r1 : Dp.Row (w.alloc (.cells RC.toArray 113)).drew w.heap.size 113 RC := (Dp.Row.allocNew w 113 RC).drew
 have k1 : Dp.Keeps (fun _ => False) w (w.alloc (.cells RC.toArray 113)).drew := ((Dp.Keeps.refl _ _).alloc _).drew
 have z1 : (w.alloc (.cells RC.toArray 113)).drew.heap.size = w.heap.size + 1 := by simp
 generalize (w.alloc (.cells RC.toArray 113)).drew = w1 at *
 rw [HRC.out] at r1
 have p1 := H1.out.keep k1 (fun e => e)
 have g1 := H2.out.keep k1 (fun e => e)
 have hS1 : Dp.Keeps (fun _ => False) w1 w1.drew := (Dp.Keeps.refl _ _).drew
 have qt : ∀ wx, Dp.Keeps (fun _ => False) w1 wx → wx.cell? ⟨w.heap.size, 14, none⟩ = some (.slice none 0 0) := fun wx kx => ((r1.keep kx (fun e => e)).refC hl).2.2.2.2.2.2.1
 have qm : ∀ wx, Dp.Keeps (fun _ => False) w1 wx → wx.cell? ⟨p, 14, none⟩ = some (.slice (some ⟨g, 0, none⟩) 256 (256 + tail.length)) := fun wx kx => ((p1.keep kx (fun e => e)).refC hl).2.2.2.2.2.2.1
 have hrl : (Dp.regCells m.cells).length = 256 := by simp [Dp.regCells, HOK.out.len]
 have HNW : Hid (∀ j u, (Dp.regCells m.cells)[j]? = some u → w1.drew.cell? ((⟨g, 0, none⟩ : Addr).add j) = some u) := by
  intro j u hj
  have hjl : j < (Dp.regCells m.cells).length := (List.getElem?_eq_some_iff.1 hj).1
  rw [Dp.add_zero_off, (g1.keep hS1 (fun e => e)).cell, List.getElem?_append_left hjl, hj]
 have HRL := Hid.mk_ hrl
 clear q13 q15 hrl HL0 HBT hS0
 refine Dp.wp_region_K (fun wx => Dp.Keeps (fun _ => False) w1 wx) 12 mixedZ ?_
 refine' Dp.wpAnyK_take 0 rfl (by kernel_rfl) (fun _ _ _ h => h) (by rfl) ?hyk0 hS1 ?restk0
 case hyk0 => intro wx hSx; go_simp; try with_reducible rfl
 simp only [Act.put, Dp.tks]
 refine' Dp.wpAnyK_take 1 rfl (by kernel_rfl) (fun _ _ _ h => h) (by rfl) ?hyk1 hS1 ?restk1
 case hyk1 => intro wx hSx; go_simp; try with_reducible rfl
 simp only [Act.put, Dp.tks]
 refine' Dp.wpAnyK_take 2 rfl (by kernel_rfl) (fun _ _ _ h => h) (by rfl) ?hyk2 hS1 ?restk2
 case hyk2 => intro wx hSx; go_simp; try with_reducible rfl
 simp only [Act.put, Dp.tks]
 refine' Dp.wpAnyK_take 3 rfl (by kernel_rfl) (fun _ _ _ h => h) (by rfl) ?hyk3 hS1 ?restk3
 case hyk3 => intro wx hSx; go_simp; try with_reducible rfl
 simp only [Act.put, Dp.tks]
 refine' Dp.wpAnyK_take 4 rfl (by kernel_rfl) (fun _ _ _ h => h) (by rfl) ?hyk4 hS1 ?restk4
 case hyk4 => intro wx hSx; go_simp; try with_reducible rfl
 simp only [Act.put, Dp.tks]
 refine' Dp.wpAnyK_take 5 rfl (by kernel_rfl) (fun _ _ _ h => h) (by rfl) ?hyk5 hS1 ?restk5
 case hyk5 => intro wx hSx; go_simp; try with_reducible rfl
 simp only [Act.put, Dp.tks]
 refine' Dp.wpAnyK_take 6 rfl (by kernel_rfl) (fun _ _ _ h => h) (by rfl) ?hyk6 hS1 ?restk6
 case hyk6 => intro wx hSx; go_simp; try with_reducible rfl
 simp only [Act.put, Dp.tks]
 refine' Dp.wpAnyK_take 7 rfl (by kernel_rfl) (fun _ _ _ h => h) (by rfl) ?hyk7 hS1 ?restk7
 case hyk7 => intro wx hSx; go_simp; try with_reducible rfl
 simp only [Act.put, Dp.tks]
 refine' Dp.wpAnyK_take 8 rfl (by kernel_rfl) (fun _ _ _ h => h) (by rfl) ?hyk8 hS1 ?restk8
 case hyk8 => intro wx hSx; go_simp; try with_reducible rfl
 simp only [Act.put, Dp.tks]
 refine Dp.wpAnyK_one 9 rfl (by kernel_rfl) (by rfl) (fun K hK => ?_)
 refine Dp.wp_append_Own _ _ 22 rfl 3 (.int .i64 0) 8 Tryz.underlying22 infoInt rfl (.slice none 0 0) [] rfl (Dp.Own.nil _ _) ⟨g, 0, none⟩ 256 (256 + tail.length) (Dp.regCells m.cells) rfl HRL.out HNW.out (fun x hx => by simp only [Dp.regCells, List.mem_map] at hx; obtain ⟨y, _, rfl⟩ := hx; rfl) (by omega) (by simp [maxLen]) (by simp) ?_
 intro v3 w3 own3 k3 sz3
 have hS2 : Dp.Keeps (fun _ => False) w1 w3 := hS1.trans (k3.mono (fun q _ e => by simp [Value.ownBlock] at e))
 refine hK _ _ ⟨fun _ => hS2, ?_⟩
 clear hK K
 simp only [Act.put, Dp.tks]
 refine Dp.wpAnyK_one 10 rfl (by kernel_rfl) (by rfl) (fun K hK => ?_)
 go_simp
 refine hK _ _ ⟨fun _ => hS2, ?_⟩
 clear hK K
 refine Dp.wpAnyK_one 11 rfl (by kernel_rfl) (by rfl) (fun K hK => ?_)
 go_simp
 refine hK _ _ ⟨fun _ => hS2, ?_⟩
 clear hK K
 have r3 := r1.keep hS2 (fun e => e)
 have c14 := (r3.refC hl).2.2.2.2.2.2.1
 have f14 := r3.frozen 14
 obtain ⟨g3, tail3, e3, hg3, ht3⟩ : ∃ g3 tail3, v3 = .slice (some ⟨g3, 0, none⟩) 256 (256 + tail3.length) ∧ Dp.Row w3 g3 3 (Dp.regCells m.cells ++ tail3) ∧ 256 + tail3.length ≤ maxLen := by
  rcases own3 with ⟨_, hx⟩ | ⟨g3, tail3, hv, hr, hm⟩
  ·have := HRL.out; rw [List.nil_append] at hx; rw [hx] at this; simp at this
  ·rw [List.nil_append, HRL.out] at hv hm
   rw [List.nil_append] at hr
   exact ⟨g3, tail3, hv, hr, hm⟩
 have hgn : w.heap.size ≤ g3 := by
  rcases sz3.out with h | h
  ·rw [e3] at h; simp [Value.ownBlock] at h
  ·rw [e3] at h
   simp [Value.ownBlock] at h
   have := hS1.size
   omega
 subst e3
 refine Dp.wpAnyK_one 12 rfl (by kernel_rfl) (by rfl) (fun K hK => ?_)
 go_simp
 refine hK _ _ ⟨fun h => absurd rfl h, ?_⟩
 clear hK K
 refine Dp.wpAnyK_done (by kernel_rfl) ?_ _
 have hne : g3 ≠ w.heap.size := hg3.ne r3 (by decide)
 have HRM : Hid (Dp.RefM (w3.setCell ⟨w.heap.size, 14, none⟩ (.slice (some ⟨g3, 0, none⟩) 256 (256 + tail3.length))) w.heap.size g3 (.slice sa sn sc) m) := by
  refine ⟨HOK.out, ⟨r, stale, tail3, ?_, hg3.setOther _ _ hne, H3.out, h4, h5, ht3⟩, ?_⟩
  ·have h := r3.set 14 (.slice (some ⟨g3, 0, none⟩) 256 (256 + tail3.length))
   have e : (Dp.refCells m.s r stale (.slice none 0 0) (.slice sa sn sc)).set 14 (.slice (some ⟨g3, 0, none⟩) 256 (256 + tail3.length)) = Dp.refCells m.s r stale (.slice (some ⟨g3, 0, none⟩) 256 (256 + tail3.length)) (.slice sa sn sc) := by
    have h13 := Dp.stCells_length m.s r hl
    unfold Dp.refCells
    rw [List.set_append_right _ _ (by omega), h13]
    rfl
   rw [e] at h
   exact h
  ·have o3 := (H7.out.keep k1 (fun _ _ e => e)).keep hS2 (fun _ _ e => e)
   exact o3.keep ((Dp.Keeps.refl (fun q => q = w.heap.size) w3).setCell (p := ⟨w.heap.size, 14, none⟩) (.inr rfl) _) (fun q hq e => o3.ne r3 (by decide) q hq e)
 have HKF : Hid (Dp.Keeps (fun _ => False) w (w3.setCell ⟨w.heap.size, 14, none⟩ (.slice (some ⟨g3, 0, none⟩) 256 (256 + tail3.length)))) := (k1.trans hS2).setCell (.inl (Nat.le_refl _)) _
 generalize w3.setCell ⟨w.heap.size, 14, none⟩ (.slice (some ⟨g3, 0, none⟩) 256 (256 + tail3.length)) = w5 at *
 clear qt qm c14 f14 r3 hg3 own3 k3 sz3 hS2 hS1 r1 p1 g1 k1
 go_wp2
 go_ret
 exact ⟨_, g3, rfl, Nat.le_refl _, hgn, HKF.out, HRM.out⟩
end Go.Proofs.YtdipojfngdceoaaGreatDoor

/- The document's answer: the proof of a cell comes to the plain one. -/
namespace Go.Proofs.YtdipojfngdceoaaGreatDoor
open Go.RowKit

set_option maxHeartbeats 1000000 in
theorem refProof (cells : List Int) (hc : ∀ x ∈ cells, Dp.isWord x) (hl : cells.length = 256) (g cap : Nat) (tail : List Value) (n : Nat) (hn : n < 256) (a : Int) (ha : a = n) (w : World) (hr : Dp.Row w g 3 (Dp.regCells cells ++ tail)) :
  Calls Tryz.prog 94 #[.slice (some ⟨g, 0, none⟩) 256 cap, .int .i64 a] w fun e w' => e = .returned (.string (Dp.str (Dp.proof cells n))) ∧ Dp.Keeps (fun _ => False) w w' := by
 subst ha
 have hcell := hr.intAt n (by omega)
 have hword : Dp.isWord (cells.getD n 0) := by
  rw [List.getD_eq_getElem?_getD, List.getElem?_eq_getElem (by omega)]; exact hc _ (List.getElem_mem _)
 unfold Dp.isWord at hword
 have HZ : Hid (∀ x, cells.getD n 0 = x → Dp.str (Dp.four x) = Dp.str (Dp.proofTo cells n 0)) := by rintro x rfl; rfl
 generalize hxx : cells.getD n 0 = x at *
 have HXX := Hid.mk_ hxx
 clear hxx
 go_enter Tryz.func94, Tryz.ntmps94
 go_wp2_with fail
 refine (refFour _ _ (by omega)).mono ?_
 rintro e w1 ⟨rfl, k1⟩
 have hr1 := hr.keep k1 (fun e => e)
 go_wp2
 go_loopw [5, 6, 7, 8] (fun p s i _ wx => ∃ k : Nat, k ≤ 8 ∧ i = .int .i64 k ∧ s = .int .i64 ((2 ^ k : Nat) : Int) ∧ p = .string (Dp.str (Dp.proofTo cells n k)) ∧ Dp.Row wx g 3 (Dp.regCells cells ++ tail) ∧ Dp.Keeps (fun _ => False) w wx) (fun _ _ i _ _ => 8 - (intOf i).toNat)
 case atStart => exact ⟨0, Nat.zero_le _, rfl, rfl, by rw [HZ.out x rfl], hr1, k1⟩
 case round =>
  obtain ⟨k, hk, rfl, rfl, rfl, rk, kk⟩ := hrel
  clear k1 hr1 hcell hr
  by_cases hlt : k < 8
  ·have hp := Dp.pow_bd k hlt
   have hs := Dp.sib_bd n k hn hlt
   have hsz := Dp.str_size (Dp.proofTo cells n k)
   have hll := Dp.proofTo_length cells n k
   have bd := Dp.digest_bd cells (Dp.sib n k) k
   have HD : Hid (∀ (a : Int) (wx : World), a = (Dp.sib n k : Nat) → Dp.Row wx g 3 (Dp.regCells cells ++ tail) → Calls Tryz.prog 56 #[.slice (some ⟨g, 0, none⟩) 256 cap, .int .i64 a, .int .i64 k] wx fun e w' => e = .returned (.int .i64 (Dp.digest cells (Dp.sib n k) k)) ∧ Dp.Keeps (fun _ => False) wx w') := by
    intro a wx ha hx
    exact refDigest cells hc hl g cap tail k (Dp.sib n k) a k wx ha rfl hx hs (by omega)
   have HP : Hid (Dp.str (Dp.proofTo cells n k) ++ Dp.str (Dp.two (Dp.digest cells (Dp.sib n k) k)) = Dp.str (Dp.proofTo cells n (k + 1))) := by
    unfold Hid; rw [Dp.str_append]; rfl
   have HU : Hid (((2 ^ (k + 1) : Nat) : Int) = 2 * ((2 ^ k : Nat) : Int)) := by unfold Hid; rw [Nat.pow_succ]; omega
   have hq : n / 2 ^ k ≤ n := Nat.div_le_self _ _
   have hm : n / 2 ^ k * 2 ^ k ≤ n := Nat.div_mul_le_self _ _
   have HSB : Hid (Dp.sib n k = if n / 2 ^ k % 2 = 0 then n / 2 ^ k * 2 ^ k + 2 ^ k else n / 2 ^ k * 2 ^ k - 2 ^ k) := rfl
   rw [hll] at hsz
   generalize Dp.str (Dp.proofTo cells n k) = X at *
   generalize Dp.digest cells (Dp.sib n k) k = D at *
   generalize Dp.sib n k = B at *
   clear hll
   generalize 2 ^ k = S at *
   have e1 : ((n : Int) / (S : Int)) = ((n / S : Nat) : Int) := (Int.natCast_ediv n S).symm
   have e2 : (((n / S : Nat) : Int) * (S : Int)) = ((n / S * S : Nat) : Int) := (Int.natCast_mul _ _).symm
   by_cases hev : n / S % 2 = 0
   ·have HB := HSB.out
    rw [if_pos hev] at HB
    generalize n / S * S = F at *
    generalize n / S = Q at *
    have hev2 : ((Q : Int) % 2 == 0) = true := by rw [beq_iff_eq]; omega
    go_wp2_with fail
    refine (HD.out _ _ (by omega) rk).mono ?_
    rintro e w3 ⟨rfl, k3⟩
    go_wp2_with fail
    refine (refTwo _ _ (by omega)).mono ?_
    rintro e w4 ⟨rfl, k4⟩
    have hz2 := Dp.str_size (Dp.two D)
    rw [Dp.two_length] at hz2
    go_wp2
    go_roundw
    case rel => exact ⟨k + 1, by omega, by go_num, by rw [HU.out], by rw [HP.out], (rk.keep k3 (fun e => e)).keep k4 (fun e => e), (kk.trans k3).trans k4⟩
    case measure => simp [intOf]; omega
   ·have HB := HSB.out
    rw [if_neg hev] at HB
    have hge : S ≤ n / S * S := Nat.le_mul_of_pos_left S (Nat.pos_of_ne_zero (fun h0 => hev (by rw [h0])))
    generalize n / S * S = F at *
    generalize n / S = Q at *
    have hev2 : ((Q : Int) % 2 == 0) = false := by rw [beq_eq_false_iff_ne]; omega
    go_wp2_with fail
    refine (HD.out _ _ (by omega) rk).mono ?_
    rintro e w3 ⟨rfl, k3⟩
    go_wp2_with fail
    refine (refTwo _ _ (by omega)).mono ?_
    rintro e w4 ⟨rfl, k4⟩
    have hz2 := Dp.str_size (Dp.two D)
    rw [Dp.two_length] at hz2
    go_wp2
    go_roundw
    case rel => exact ⟨k + 1, by omega, by go_num, by rw [HU.out], by rw [HP.out], (rk.keep k3 (fun e => e)).keep k4 (fun e => e), (kk.trans k3).trans k4⟩
    case measure => simp [intOf]; omega
  ·obtain rfl : k = 8 := by omega
   go_wp2
   go_ret
   exact ⟨rfl, kk⟩

end Go.Proofs.YtdipojfngdceoaaGreatDoor
