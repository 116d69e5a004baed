/- Steps on the way: RefRooted, RefPlainA, RefPlainB. -/
import Derived.Test.YtdipojfngdceoaaDoorPack02
import Derived.Test.YtdipojfngdceoaaDoorPack58
import Derived.Test.YtdipojfngdceoaaDoorProg
import Derived.WalkKit
import Derived.WalkSpells
import Derived.WalkLawsBesides
import Derived.BigQuiet
import Derived.Deep.QuietTactic
/- The document's answer: the root that a proof leads to, the proof of a cell. -/
namespace Go.Proofs.YtdipojfngdceoaaDoor
open Go.RowKit

namespace Dp
/-- The digest that a proof (with a word in place of its own) leads to, k layers up, for a cell. -/
def rooted (l : List UInt8) (word : Int) (n : Nat) : Nat → Int
  | 0 => sum (0 :: four word)
  | k + 1 => if n / 2 ^ k % 2 = 0 then sum (1 :: (two (rooted l word n k) ++ two (numTo l (4 + 2 * k) 2))) else sum (1 :: (two (numTo l (4 + 2 * k) 2) ++ two (rooted l word n k)))
theorem rooted_bd (l : List UInt8) (word : Int) (n k : Nat) : 0 ≤ rooted l word n k ∧ rooted l word n k < 65521 := by
  cases k with
  | zero => exact sum_bd _
  | succ k => unfold rooted; split <;> exact sum_bd _
theorem rooted_even (l : List UInt8) (word : Int) (n k : Nat) (h : n / 2 ^ k % 2 = 0) : rooted l word n (k + 1) = sum (1 :: (two (rooted l word n k) ++ two (numTo l (4 + 2 * k) 2))) := by
  show (if _ then _ else _) = _; rw [if_pos h]
theorem rooted_odd (l : List UInt8) (word : Int) (n k : Nat) (h : ¬ n / 2 ^ k % 2 = 0) : rooted l word n (k + 1) = sum (1 :: (two (numTo l (4 + 2 * k) 2) ++ two (rooted l word n k))) := by
  show (if _ then _ else _) = _; rw [if_neg h]
theorem numTo_two (l : List UInt8) (at_ : Nat) : 0 ≤ numTo l at_ 2 ∧ numTo l at_ 2 < 65536 := by
  have hb : ∀ j, (l.getD j 0).toNat < 256 := fun j => (l.getD j 0).toNat_lt
  have h0 := hb (at_ + 0)
  have h1 := hb (at_ + 1)
  unfold numTo numTo numTo
  omega
end Dp

set_option maxHeartbeats 1000000 in
theorem refRooted (l : List UInt8) (word : Int) (n : Nat) (w : World) (hl : 20 ≤ l.length ∧ l.length ≤ 16777216) (hw : Dp.isWord word) (hn : n ≤ 4294967296) :
    Calls Tryd.prog 62 #[.string (Dp.str l), .int .i64 word, .int .i64 n] w fun e w' => e = .returned (.int .i64 (Dp.rooted l word n 8)) ∧ Dp.Keeps (fun _ => False) w w' := by
  unfold Dp.isWord at hw
  go_enter Tryd.func62, Tryd.ntmps62
  go_wp2_with fail
  refine (refFour _ _ (by omega)).mono ?_
  rintro e w1 ⟨rfl, k1⟩
  have q0 : (⟨#[0]⟩ : ByteArray) = Dp.str [0] := rfl
  have q00 : (⟨#[1]⟩ : ByteArray) = Dp.str [1] := rfl
  have q1 := Dp.str_size
  have q2 := Dp.four_length
  have q3 := Dp.str_append
  go_wp2_with fail
  refine (refSum _ _ (by rw [Dp.str_size]; simp [maxLen, Dp.four_length])).mono ?_
  rintro e w2 ⟨rfl, rfl⟩
  rw [Dp.str_data]
  have q4 := Dp.two_length
  clear q1 q2 q3
  go_wp2
  go_loopw [2, 7, 8, 9] (fun nn d i _ wx => ∃ k : Nat, k ≤ 8 ∧ i = .int .i64 k ∧ nn = .int .i64 ((n / 2 ^ k : Nat) : Int) ∧ d = .int .i64 (Dp.rooted l word n k) ∧ Dp.Keeps (fun _ => False) w wx) (fun _ _ i _ _ => 8 - (intOf i).toNat)
  case atStart => exact ⟨0, Nat.zero_le _, rfl, by simp, rfl, k1⟩
  case round =>
    obtain ⟨k, hk, rfl, rfl, rfl, kk⟩ := hrel
    clear k1
    have bd := Dp.rooted_bd l word n k
    have hq : n / 2 ^ k ≤ n := Nat.div_le_self _ _
    by_cases hlt : k < 8
    · have HQ : Hid (((n / 2 ^ (k + 1) : Nat) : Int) = ((n / 2 ^ k : Nat) : Int) / 2) := by
        unfold Hid; rw [Nat.pow_succ, ← Nat.div_div_eq_div_mul]; rfl
      have bo := Dp.numTo_two l (4 + 2 * k)
      have HN : Hid (∀ (a : Int) (wx : World), a = ((4 + 2 * k : Nat) : Int) → Calls Tryd.prog 46 #[.string (Dp.str l), .int .i64 a, .int .i64 2] wx fun e w' => e = .returned (.int .i64 (Dp.numTo l (4 + 2 * k) 2)) ∧ w' = wx) := by
        rintro a wx rfl
        exact refNumber l (4 + 2 * k) 2 wx (by omega) (by omega) hl.2
      go_wp2_with fail
      refine (HN.out _ _ (by omega)).mono ?_
      rintro e w3 ⟨rfl, rfl⟩
      have q1 := Dp.str_size
      have q3 := Dp.str_append
      by_cases hev : n / 2 ^ k % 2 = 0
      · have HR : Hid (Dp.rooted l word n (k + 1) = Dp.sum (1 :: (Dp.two (Dp.rooted l word n k) ++ Dp.two (Dp.numTo l (4 + 2 * k) 2)))) := Dp.rooted_even l word n k hev
        generalize Dp.rooted l word n k = D at *
        generalize Dp.numTo l (4 + 2 * k) 2 = O at *
        generalize n / 2 ^ k = Q at *
        have hev2 : ((Q : Int) % 2 == 0) = true := by rw [beq_iff_eq]; omega
        go_wp2_with fail
        refine (refTwo _ _ (by omega)).mono ?_
        rintro e w4 ⟨rfl, k4⟩
        go_wp2_with fail
        refine (refTwo _ _ (by omega)).mono ?_
        rintro e w5 ⟨rfl, k5⟩
        go_wp2_with fail
        refine (refSum _ _ (by rw [Dp.str_size]; simp [maxLen, Dp.two_length])).mono ?_
        rintro e w6 ⟨rfl, rfl⟩
        rw [Dp.str_data]
        clear q1 q3
        go_wp2
        go_roundw
        case rel => exact ⟨k + 1, by omega, by go_num, by rw [HQ.out], by rw [HR.out], (kk.trans k4).trans k5⟩
        case measure => simp [intOf]; omega
      · have HR : Hid (Dp.rooted l word n (k + 1) = Dp.sum (1 :: (Dp.two (Dp.numTo l (4 + 2 * k) 2) ++ Dp.two (Dp.rooted l word n k)))) := Dp.rooted_odd l word n k hev
        generalize Dp.rooted l word n k = D at *
        generalize Dp.numTo l (4 + 2 * k) 2 = O at *
        generalize n / 2 ^ k = Q at *
        have hev2 : ((Q : Int) % 2 == 0) = false := by rw [beq_eq_false_iff_ne]; omega
        go_wp2_with fail
        refine (refTwo _ _ (by omega)).mono ?_
        rintro e w4 ⟨rfl, k4⟩
        go_wp2_with fail
        refine (refTwo _ _ (by omega)).mono ?_
        rintro e w5 ⟨rfl, k5⟩
        go_wp2_with fail
        refine (refSum _ _ (by rw [Dp.str_size]; simp [maxLen, Dp.two_length])).mono ?_
        rintro e w6 ⟨rfl, rfl⟩
        rw [Dp.str_data]
        clear q1 q3
        go_wp2
        go_roundw
        case rel => exact ⟨k + 1, by omega, by go_num, by rw [HQ.out], by rw [HR.out], (kk.trans k4).trans k5⟩
        case measure => simp [intOf]; omega
    · obtain rfl : k = 8 := by omega
      go_wp2
      go_ret
      exact ⟨rfl, kk⟩

end Go.Proofs.YtdipojfngdceoaaDoor

/- The document's answer: a step without a cell or a source comes to the plain one: instructions 1, 2, 3, 11, 12. -/
namespace Go.Proofs.YtdipojfngdceoaaDoor
open Go.RowKit

set_option maxRecDepth 100000 in
set_option maxHeartbeats 1000000 in
theorem refPlain1 (s : Dp.Cs) (root : Int) (i : Dp.Ins) (w : World) (hs : s.Ok) (hi : i.Ok) (hop : i.op = 1) :
    Calls Tryd.prog 50 #[Dp.stVal s root, Dp.insVal i] w fun e w' => e = .returned (.tuple #[Dp.stVal (Dp.plain s i).1 root, .int .i64 (Dp.plain s i).2]) ∧ Dp.Keeps (fun _ => False) w w' := by
  rw [Dp.plain_form s i (Dp.wrap (s.reg i.b + s.reg i.c)) (Dp.wrap (s.pc + 1)) (by rw [hop]; rfl) (by omega) (by omega) (by simp [Dp.aluOf, hop]) (by simp [Dp.nextOf, hop])]
  have hpc := hs.pc
  have hst := hs.steps
  have ha := hs.reg i.a
  have hb := hs.reg i.b
  have hc := hs.reg i.c
  unfold Dp.isWord at hpc hst ha hb hc
  go_enter Tryd.func50, Tryd.ntmps50
  go_wp2_with (refine Dp.wpList_box_row rfl 35 _ rfl (Dp.stCells s root) rfl ?_)
  intro w1 r1 z1 k1
  go_wp2_with (refine Dp.wpList_box_row rfl 98 _ rfl (Dp.insCells i) rfl ?_)
  intro w2 r2 z2 k2
  go_wp2_with (refine Dp.wpList_alloc_row rfl 35 rfl _ zeroState ?_)
  intro w3 r3 z3 k3
  have rs := (r1.keep k2 (fun e => e)).keep k3 (fun e => e)
  have ri := r2.keep k3 (fun e => e)
  have r3' : Dp.Row w3 (w.heap.size + 1 + 1) 35 ([] ++ Dp.stCells ⟨0, 0, 0, false, [0, 0, 0, 0, 0, 0, 0, 0]⟩ 0 ++ []) := by rw [List.append_nil, List.nil_append]; exact r3
  have kk : Dp.Keeps (fun _ => False) w w3 := (k1.trans k2).trans k3
  obtain ⟨c0, c1, c2, c3⟩ := rs.st
  obtain ⟨io, ia, ib, ic, inn⟩ := ri.insC
  have cra := rs.stReg hs.len i.a hi.a
  have crb := rs.stReg hs.len i.b hi.b
  have crc := rs.stReg hs.len i.c hi.c
  have f0 := rs.frozen 0
  have f1 := rs.frozen 1
  have f2 := rs.frozen 2
  have f3 := rs.frozen 3
  have fr := rs.frozen (4 + i.a.toNat)
  have hia := hi.a
  have hib := hi.b
  have hic := hi.c
  have hin := hi.n
  have hl := hs.len
  have hlm : (Dp.stCells ⟨Dp.wrap (s.pc + 1), Dp.wrap (s.steps + 1), s.code, s.over, s.regs.set i.a.toNat (Dp.wrap (s.reg i.b + s.reg i.c))⟩ root).length = 13 := Dp.stCells_length _ _ (by simp [hl])
  have HM : Hid ((Dp.stCells ⟨Dp.wrap (s.pc + 1), Dp.wrap (s.steps + 1), s.code, s.over, s.regs.set i.a.toNat (Dp.wrap (s.reg i.b + s.reg i.c))⟩ root).length = 13) := hlm
  clear r1 z1 k1 r2 z2 k2 r3 z3 k3 ri hlm
  go_wp2_with fail
  refine (refWrap _ _).mono ?_
  rintro e w' ⟨rfl, rfl⟩
  go_wp2_with fail
  refine (refWrap _ _).mono ?_
  rintro e w' ⟨rfl, rfl⟩
  go_wp2_with fail
  refine (refWrap _ _).mono ?_
  rintro e w' ⟨rfl, rfl⟩
  have HR := Hid.mk_ (Dp.tail_row (i := i) (Dp.wrap (s.reg i.b + s.reg i.c)) (Dp.wrap (s.pc + 1)) (Dp.wrap (s.steps + 1)) rs hl hia)
  have HR3 := Hid.mk_ (Dp.tail_other (g := w.heap.size) (4 + i.a.toNat) (.int .i64 (Dp.wrap (s.reg i.b + s.reg i.c))) (.int .i64 (Dp.wrap (s.pc + 1))) (.int .i64 (Dp.wrap (s.steps + 1))) r3' (show w.heap.size + 1 + 1 ≠ w.heap.size by omega))
  go_wp2_with (refine Dp.wpList_load_in rfl 35 _ rfl w.heap.size 0 rfl 35 [] _ [] HR.out rfl _ Tryd.underlying35 rfl (by rw [sizeState, HM.out]) ?_)
  intro _
  go_wp2_with (refine Dp.wpList_store_in rfl 35 _ _ rfl (w.heap.size + 1 + 1) 0 rfl (Dp.stCells ⟨Dp.wrap (s.pc + 1), Dp.wrap (s.steps + 1), s.code, s.over, s.regs.set i.a.toNat (Dp.wrap (s.reg i.b + s.reg i.c))⟩ root) rfl 35 [] _ [] HR3.out rfl (by rw [HM.out]; rfl) (by rw [sizeState, HM.out]) (Dp.stCells_one _ _) ?_)
  intro w4 r4 z4 k4
  go_wp2
  have r4' : Dp.Row w4 (w.heap.size + 1 + 1) 35 (Dp.stCells ⟨Dp.wrap (s.pc + 1), Dp.wrap (s.steps + 1), s.code, s.over, s.regs.set i.a.toNat (Dp.wrap (s.reg i.b + s.reg i.c))⟩ root) := by simpa using r4
  refine bodyPost_ret (Dp.results_row_tmp rfl _ _ (w.heap.size + 1 + 1) 35 _ _ rfl r4' Tryd.underlying35 rfl (by rw [sizeState, HM.out])) rfl ⟨rfl, ?_⟩
  exact (Dp.tail_keeps _ _ _ _ kk (Nat.le_refl _)).next k4 (fun k hk e => by omega)

set_option maxRecDepth 100000 in
set_option maxHeartbeats 1000000 in
theorem refPlain2 (s : Dp.Cs) (root : Int) (i : Dp.Ins) (w : World) (hs : s.Ok) (hi : i.Ok) (hop : i.op = 2) :
    Calls Tryd.prog 50 #[Dp.stVal s root, Dp.insVal i] w fun e w' => e = .returned (.tuple #[Dp.stVal (Dp.plain s i).1 root, .int .i64 (Dp.plain s i).2]) ∧ Dp.Keeps (fun _ => False) w w' := by
  rw [Dp.plain_form s i (Dp.wrap (s.reg i.b - s.reg i.c)) (Dp.wrap (s.pc + 1)) (by rw [hop]; rfl) (by omega) (by omega) (by simp [Dp.aluOf, hop]) (by simp [Dp.nextOf, hop])]
  have hpc := hs.pc
  have hst := hs.steps
  have ha := hs.reg i.a
  have hb := hs.reg i.b
  have hc := hs.reg i.c
  unfold Dp.isWord at hpc hst ha hb hc
  go_enter Tryd.func50, Tryd.ntmps50
  go_wp2_with (refine Dp.wpList_box_row rfl 35 _ rfl (Dp.stCells s root) rfl ?_)
  intro w1 r1 z1 k1
  go_wp2_with (refine Dp.wpList_box_row rfl 98 _ rfl (Dp.insCells i) rfl ?_)
  intro w2 r2 z2 k2
  go_wp2_with (refine Dp.wpList_alloc_row rfl 35 rfl _ zeroState ?_)
  intro w3 r3 z3 k3
  have rs := (r1.keep k2 (fun e => e)).keep k3 (fun e => e)
  have ri := r2.keep k3 (fun e => e)
  have r3' : Dp.Row w3 (w.heap.size + 1 + 1) 35 ([] ++ Dp.stCells ⟨0, 0, 0, false, [0, 0, 0, 0, 0, 0, 0, 0]⟩ 0 ++ []) := by rw [List.append_nil, List.nil_append]; exact r3
  have kk : Dp.Keeps (fun _ => False) w w3 := (k1.trans k2).trans k3
  obtain ⟨c0, c1, c2, c3⟩ := rs.st
  obtain ⟨io, ia, ib, ic, inn⟩ := ri.insC
  have cra := rs.stReg hs.len i.a hi.a
  have crb := rs.stReg hs.len i.b hi.b
  have crc := rs.stReg hs.len i.c hi.c
  have f0 := rs.frozen 0
  have f1 := rs.frozen 1
  have f2 := rs.frozen 2
  have f3 := rs.frozen 3
  have fr := rs.frozen (4 + i.a.toNat)
  have hia := hi.a
  have hib := hi.b
  have hic := hi.c
  have hin := hi.n
  have hl := hs.len
  have hlm : (Dp.stCells ⟨Dp.wrap (s.pc + 1), Dp.wrap (s.steps + 1), s.code, s.over, s.regs.set i.a.toNat (Dp.wrap (s.reg i.b - s.reg i.c))⟩ root).length = 13 := Dp.stCells_length _ _ (by simp [hl])
  have HM : Hid ((Dp.stCells ⟨Dp.wrap (s.pc + 1), Dp.wrap (s.steps + 1), s.code, s.over, s.regs.set i.a.toNat (Dp.wrap (s.reg i.b - s.reg i.c))⟩ root).length = 13) := hlm
  clear r1 z1 k1 r2 z2 k2 r3 z3 k3 ri hlm
  go_wp2_with fail
  refine (refWrap _ _).mono ?_
  rintro e w' ⟨rfl, rfl⟩
  go_wp2_with fail
  refine (refWrap _ _).mono ?_
  rintro e w' ⟨rfl, rfl⟩
  go_wp2_with fail
  refine (refWrap _ _).mono ?_
  rintro e w' ⟨rfl, rfl⟩
  have HR := Hid.mk_ (Dp.tail_row (i := i) (Dp.wrap (s.reg i.b - s.reg i.c)) (Dp.wrap (s.pc + 1)) (Dp.wrap (s.steps + 1)) rs hl hia)
  have HR3 := Hid.mk_ (Dp.tail_other (g := w.heap.size) (4 + i.a.toNat) (.int .i64 (Dp.wrap (s.reg i.b - s.reg i.c))) (.int .i64 (Dp.wrap (s.pc + 1))) (.int .i64 (Dp.wrap (s.steps + 1))) r3' (show w.heap.size + 1 + 1 ≠ w.heap.size by omega))
  go_wp2_with (refine Dp.wpList_load_in rfl 35 _ rfl w.heap.size 0 rfl 35 [] _ [] HR.out rfl _ Tryd.underlying35 rfl (by rw [sizeState, HM.out]) ?_)
  intro _
  go_wp2_with (refine Dp.wpList_store_in rfl 35 _ _ rfl (w.heap.size + 1 + 1) 0 rfl (Dp.stCells ⟨Dp.wrap (s.pc + 1), Dp.wrap (s.steps + 1), s.code, s.over, s.regs.set i.a.toNat (Dp.wrap (s.reg i.b - s.reg i.c))⟩ root) rfl 35 [] _ [] HR3.out rfl (by rw [HM.out]; rfl) (by rw [sizeState, HM.out]) (Dp.stCells_one _ _) ?_)
  intro w4 r4 z4 k4
  go_wp2
  have r4' : Dp.Row w4 (w.heap.size + 1 + 1) 35 (Dp.stCells ⟨Dp.wrap (s.pc + 1), Dp.wrap (s.steps + 1), s.code, s.over, s.regs.set i.a.toNat (Dp.wrap (s.reg i.b - s.reg i.c))⟩ root) := by simpa using r4
  refine bodyPost_ret (Dp.results_row_tmp rfl _ _ (w.heap.size + 1 + 1) 35 _ _ rfl r4' Tryd.underlying35 rfl (by rw [sizeState, HM.out])) rfl ⟨rfl, ?_⟩
  exact (Dp.tail_keeps _ _ _ _ kk (Nat.le_refl _)).next k4 (fun k hk e => by omega)

set_option maxRecDepth 100000 in
set_option maxHeartbeats 1000000 in
theorem refPlain3 (s : Dp.Cs) (root : Int) (i : Dp.Ins) (w : World) (hs : s.Ok) (hi : i.Ok) (hop : i.op = 3) :
    Calls Tryd.prog 50 #[Dp.stVal s root, Dp.insVal i] w fun e w' => e = .returned (.tuple #[Dp.stVal (Dp.plain s i).1 root, .int .i64 (Dp.plain s i).2]) ∧ Dp.Keeps (fun _ => False) w w' := by
  rw [Dp.plain_form s i (Dp.wrap (s.reg i.b * s.reg i.c)) (Dp.wrap (s.pc + 1)) (by rw [hop]; rfl) (by omega) (by omega) (by simp [Dp.aluOf, hop]) (by simp [Dp.nextOf, hop])]
  have hpc := hs.pc
  have hst := hs.steps
  have ha := hs.reg i.a
  have hb := hs.reg i.b
  have hc := hs.reg i.c
  unfold Dp.isWord at hpc hst ha hb hc
  go_enter Tryd.func50, Tryd.ntmps50
  go_wp2_with (refine Dp.wpList_box_row rfl 35 _ rfl (Dp.stCells s root) rfl ?_)
  intro w1 r1 z1 k1
  go_wp2_with (refine Dp.wpList_box_row rfl 98 _ rfl (Dp.insCells i) rfl ?_)
  intro w2 r2 z2 k2
  go_wp2_with (refine Dp.wpList_alloc_row rfl 35 rfl _ zeroState ?_)
  intro w3 r3 z3 k3
  have rs := (r1.keep k2 (fun e => e)).keep k3 (fun e => e)
  have ri := r2.keep k3 (fun e => e)
  have r3' : Dp.Row w3 (w.heap.size + 1 + 1) 35 ([] ++ Dp.stCells ⟨0, 0, 0, false, [0, 0, 0, 0, 0, 0, 0, 0]⟩ 0 ++ []) := by rw [List.append_nil, List.nil_append]; exact r3
  have kk : Dp.Keeps (fun _ => False) w w3 := (k1.trans k2).trans k3
  obtain ⟨c0, c1, c2, c3⟩ := rs.st
  obtain ⟨io, ia, ib, ic, inn⟩ := ri.insC
  have cra := rs.stReg hs.len i.a hi.a
  have crb := rs.stReg hs.len i.b hi.b
  have crc := rs.stReg hs.len i.c hi.c
  have f0 := rs.frozen 0
  have f1 := rs.frozen 1
  have f2 := rs.frozen 2
  have f3 := rs.frozen 3
  have fr := rs.frozen (4 + i.a.toNat)
  have hia := hi.a
  have hib := hi.b
  have hic := hi.c
  have hin := hi.n
  have hl := hs.len
  have hlm : (Dp.stCells ⟨Dp.wrap (s.pc + 1), Dp.wrap (s.steps + 1), s.code, s.over, s.regs.set i.a.toNat (Dp.wrap (s.reg i.b * s.reg i.c))⟩ root).length = 13 := Dp.stCells_length _ _ (by simp [hl])
  have HM : Hid ((Dp.stCells ⟨Dp.wrap (s.pc + 1), Dp.wrap (s.steps + 1), s.code, s.over, s.regs.set i.a.toNat (Dp.wrap (s.reg i.b * s.reg i.c))⟩ root).length = 13) := hlm
  clear r1 z1 k1 r2 z2 k2 r3 z3 k3 ri hlm
  go_wp2_with fail
  refine (refWrap _ _).mono ?_
  rintro e w' ⟨rfl, rfl⟩
  go_wp2_with fail
  refine (refProduct _ _ _ (by unfold Dp.isWord; omega) (by unfold Dp.isWord; omega)).mono ?_
  rintro e w' ⟨rfl, rfl⟩
  go_wp2_with fail
  refine (refWrap _ _).mono ?_
  rintro e w' ⟨rfl, rfl⟩
  have HR := Hid.mk_ (Dp.tail_row (i := i) (Dp.wrap (s.reg i.b * s.reg i.c)) (Dp.wrap (s.pc + 1)) (Dp.wrap (s.steps + 1)) rs hl hia)
  have HR3 := Hid.mk_ (Dp.tail_other (g := w.heap.size) (4 + i.a.toNat) (.int .i64 (Dp.wrap (s.reg i.b * s.reg i.c))) (.int .i64 (Dp.wrap (s.pc + 1))) (.int .i64 (Dp.wrap (s.steps + 1))) r3' (show w.heap.size + 1 + 1 ≠ w.heap.size by omega))
  go_wp2_with (refine Dp.wpList_load_in rfl 35 _ rfl w.heap.size 0 rfl 35 [] _ [] HR.out rfl _ Tryd.underlying35 rfl (by rw [sizeState, HM.out]) ?_)
  intro _
  go_wp2_with (refine Dp.wpList_store_in rfl 35 _ _ rfl (w.heap.size + 1 + 1) 0 rfl (Dp.stCells ⟨Dp.wrap (s.pc + 1), Dp.wrap (s.steps + 1), s.code, s.over, s.regs.set i.a.toNat (Dp.wrap (s.reg i.b * s.reg i.c))⟩ root) rfl 35 [] _ [] HR3.out rfl (by rw [HM.out]; rfl) (by rw [sizeState, HM.out]) (Dp.stCells_one _ _) ?_)
  intro w4 r4 z4 k4
  go_wp2
  have r4' : Dp.Row w4 (w.heap.size + 1 + 1) 35 (Dp.stCells ⟨Dp.wrap (s.pc + 1), Dp.wrap (s.steps + 1), s.code, s.over, s.regs.set i.a.toNat (Dp.wrap (s.reg i.b * s.reg i.c))⟩ root) := by simpa using r4
  refine bodyPost_ret (Dp.results_row_tmp rfl _ _ (w.heap.size + 1 + 1) 35 _ _ rfl r4' Tryd.underlying35 rfl (by rw [sizeState, HM.out])) rfl ⟨rfl, ?_⟩
  exact (Dp.tail_keeps _ _ _ _ kk (Nat.le_refl _)).next k4 (fun k hk e => by omega)

set_option maxRecDepth 100000 in
set_option maxHeartbeats 1000000 in
theorem refPlain11 (s : Dp.Cs) (root : Int) (i : Dp.Ins) (w : World) (hs : s.Ok) (hi : i.Ok) (hop : i.op = 11) :
    Calls Tryd.prog 50 #[Dp.stVal s root, Dp.insVal i] w fun e w' => e = .returned (.tuple #[Dp.stVal (Dp.plain s i).1 root, .int .i64 (Dp.plain s i).2]) ∧ Dp.Keeps (fun _ => False) w w' := by
  rw [Dp.plain_form s i (Dp.wrap (s.reg i.b + i.n)) (Dp.wrap (s.pc + 1)) (by rw [hop]; rfl) (by omega) (by omega) (by simp [Dp.aluOf, hop]) (by simp [Dp.nextOf, hop])]
  have hpc := hs.pc
  have hst := hs.steps
  have ha := hs.reg i.a
  have hb := hs.reg i.b
  have hc := hs.reg i.c
  unfold Dp.isWord at hpc hst ha hb hc
  go_enter Tryd.func50, Tryd.ntmps50
  go_wp2_with (refine Dp.wpList_box_row rfl 35 _ rfl (Dp.stCells s root) rfl ?_)
  intro w1 r1 z1 k1
  go_wp2_with (refine Dp.wpList_box_row rfl 98 _ rfl (Dp.insCells i) rfl ?_)
  intro w2 r2 z2 k2
  go_wp2_with (refine Dp.wpList_alloc_row rfl 35 rfl _ zeroState ?_)
  intro w3 r3 z3 k3
  have rs := (r1.keep k2 (fun e => e)).keep k3 (fun e => e)
  have ri := r2.keep k3 (fun e => e)
  have r3' : Dp.Row w3 (w.heap.size + 1 + 1) 35 ([] ++ Dp.stCells ⟨0, 0, 0, false, [0, 0, 0, 0, 0, 0, 0, 0]⟩ 0 ++ []) := by rw [List.append_nil, List.nil_append]; exact r3
  have kk : Dp.Keeps (fun _ => False) w w3 := (k1.trans k2).trans k3
  obtain ⟨c0, c1, c2, c3⟩ := rs.st
  obtain ⟨io, ia, ib, ic, inn⟩ := ri.insC
  have cra := rs.stReg hs.len i.a hi.a
  have crb := rs.stReg hs.len i.b hi.b
  have crc := rs.stReg hs.len i.c hi.c
  have f0 := rs.frozen 0
  have f1 := rs.frozen 1
  have f2 := rs.frozen 2
  have f3 := rs.frozen 3
  have fr := rs.frozen (4 + i.a.toNat)
  have hia := hi.a
  have hib := hi.b
  have hic := hi.c
  have hin := hi.n
  have hl := hs.len
  have hlm : (Dp.stCells ⟨Dp.wrap (s.pc + 1), Dp.wrap (s.steps + 1), s.code, s.over, s.regs.set i.a.toNat (Dp.wrap (s.reg i.b + i.n))⟩ root).length = 13 := Dp.stCells_length _ _ (by simp [hl])
  have HM : Hid ((Dp.stCells ⟨Dp.wrap (s.pc + 1), Dp.wrap (s.steps + 1), s.code, s.over, s.regs.set i.a.toNat (Dp.wrap (s.reg i.b + i.n))⟩ root).length = 13) := hlm
  clear r1 z1 k1 r2 z2 k2 r3 z3 k3 ri hlm
  go_wp2_with fail
  refine (refWrap _ _).mono ?_
  rintro e w' ⟨rfl, rfl⟩
  go_wp2_with fail
  refine (refWrap _ _).mono ?_
  rintro e w' ⟨rfl, rfl⟩
  go_wp2_with fail
  refine (refWrap _ _).mono ?_
  rintro e w' ⟨rfl, rfl⟩
  have HR := Hid.mk_ (Dp.tail_row (i := i) (Dp.wrap (s.reg i.b + i.n)) (Dp.wrap (s.pc + 1)) (Dp.wrap (s.steps + 1)) rs hl hia)
  have HR3 := Hid.mk_ (Dp.tail_other (g := w.heap.size) (4 + i.a.toNat) (.int .i64 (Dp.wrap (s.reg i.b + i.n))) (.int .i64 (Dp.wrap (s.pc + 1))) (.int .i64 (Dp.wrap (s.steps + 1))) r3' (show w.heap.size + 1 + 1 ≠ w.heap.size by omega))
  go_wp2_with (refine Dp.wpList_load_in rfl 35 _ rfl w.heap.size 0 rfl 35 [] _ [] HR.out rfl _ Tryd.underlying35 rfl (by rw [sizeState, HM.out]) ?_)
  intro _
  go_wp2_with (refine Dp.wpList_store_in rfl 35 _ _ rfl (w.heap.size + 1 + 1) 0 rfl (Dp.stCells ⟨Dp.wrap (s.pc + 1), Dp.wrap (s.steps + 1), s.code, s.over, s.regs.set i.a.toNat (Dp.wrap (s.reg i.b + i.n))⟩ root) rfl 35 [] _ [] HR3.out rfl (by rw [HM.out]; rfl) (by rw [sizeState, HM.out]) (Dp.stCells_one _ _) ?_)
  intro w4 r4 z4 k4
  go_wp2
  have r4' : Dp.Row w4 (w.heap.size + 1 + 1) 35 (Dp.stCells ⟨Dp.wrap (s.pc + 1), Dp.wrap (s.steps + 1), s.code, s.over, s.regs.set i.a.toNat (Dp.wrap (s.reg i.b + i.n))⟩ root) := by simpa using r4
  refine bodyPost_ret (Dp.results_row_tmp rfl _ _ (w.heap.size + 1 + 1) 35 _ _ rfl r4' Tryd.underlying35 rfl (by rw [sizeState, HM.out])) rfl ⟨rfl, ?_⟩
  exact (Dp.tail_keeps _ _ _ _ kk (Nat.le_refl _)).next k4 (fun k hk e => by omega)

set_option maxRecDepth 100000 in
set_option maxHeartbeats 1000000 in
theorem refPlain12 (s : Dp.Cs) (root : Int) (i : Dp.Ins) (w : World) (hs : s.Ok) (hi : i.Ok) (hop : i.op = 12) :
    Calls Tryd.prog 50 #[Dp.stVal s root, Dp.insVal i] w fun e w' => e = .returned (.tuple #[Dp.stVal (Dp.plain s i).1 root, .int .i64 (Dp.plain s i).2]) ∧ Dp.Keeps (fun _ => False) w w' := by
  rw [Dp.plain_form s i (Dp.wrap (i.n * 32768)) (Dp.wrap (s.pc + 1)) (by rw [hop]; rfl) (by omega) (by omega) (by simp [Dp.aluOf, hop]) (by simp [Dp.nextOf, hop])]
  have hpc := hs.pc
  have hst := hs.steps
  have ha := hs.reg i.a
  have hb := hs.reg i.b
  have hc := hs.reg i.c
  unfold Dp.isWord at hpc hst ha hb hc
  go_enter Tryd.func50, Tryd.ntmps50
  go_wp2_with (refine Dp.wpList_box_row rfl 35 _ rfl (Dp.stCells s root) rfl ?_)
  intro w1 r1 z1 k1
  go_wp2_with (refine Dp.wpList_box_row rfl 98 _ rfl (Dp.insCells i) rfl ?_)
  intro w2 r2 z2 k2
  go_wp2_with (refine Dp.wpList_alloc_row rfl 35 rfl _ zeroState ?_)
  intro w3 r3 z3 k3
  have rs := (r1.keep k2 (fun e => e)).keep k3 (fun e => e)
  have ri := r2.keep k3 (fun e => e)
  have r3' : Dp.Row w3 (w.heap.size + 1 + 1) 35 ([] ++ Dp.stCells ⟨0, 0, 0, false, [0, 0, 0, 0, 0, 0, 0, 0]⟩ 0 ++ []) := by rw [List.append_nil, List.nil_append]; exact r3
  have kk : Dp.Keeps (fun _ => False) w w3 := (k1.trans k2).trans k3
  obtain ⟨c0, c1, c2, c3⟩ := rs.st
  obtain ⟨io, ia, ib, ic, inn⟩ := ri.insC
  have cra := rs.stReg hs.len i.a hi.a
  have crb := rs.stReg hs.len i.b hi.b
  have crc := rs.stReg hs.len i.c hi.c
  have f0 := rs.frozen 0
  have f1 := rs.frozen 1
  have f2 := rs.frozen 2
  have f3 := rs.frozen 3
  have fr := rs.frozen (4 + i.a.toNat)
  have hia := hi.a
  have hib := hi.b
  have hic := hi.c
  have hin := hi.n
  have hl := hs.len
  have hlm : (Dp.stCells ⟨Dp.wrap (s.pc + 1), Dp.wrap (s.steps + 1), s.code, s.over, s.regs.set i.a.toNat (Dp.wrap (i.n * 32768))⟩ root).length = 13 := Dp.stCells_length _ _ (by simp [hl])
  have HM : Hid ((Dp.stCells ⟨Dp.wrap (s.pc + 1), Dp.wrap (s.steps + 1), s.code, s.over, s.regs.set i.a.toNat (Dp.wrap (i.n * 32768))⟩ root).length = 13) := hlm
  clear r1 z1 k1 r2 z2 k2 r3 z3 k3 ri hlm
  go_wp2_with fail
  refine (refWrap _ _).mono ?_
  rintro e w' ⟨rfl, rfl⟩
  go_wp2_with fail
  refine (refWrap _ _).mono ?_
  rintro e w' ⟨rfl, rfl⟩
  go_wp2_with fail
  refine (refWrap _ _).mono ?_
  rintro e w' ⟨rfl, rfl⟩
  have HR := Hid.mk_ (Dp.tail_row (i := i) (Dp.wrap (i.n * 32768)) (Dp.wrap (s.pc + 1)) (Dp.wrap (s.steps + 1)) rs hl hia)
  have HR3 := Hid.mk_ (Dp.tail_other (g := w.heap.size) (4 + i.a.toNat) (.int .i64 (Dp.wrap (i.n * 32768))) (.int .i64 (Dp.wrap (s.pc + 1))) (.int .i64 (Dp.wrap (s.steps + 1))) r3' (show w.heap.size + 1 + 1 ≠ w.heap.size by omega))
  go_wp2_with (refine Dp.wpList_load_in rfl 35 _ rfl w.heap.size 0 rfl 35 [] _ [] HR.out rfl _ Tryd.underlying35 rfl (by rw [sizeState, HM.out]) ?_)
  intro _
  go_wp2_with (refine Dp.wpList_store_in rfl 35 _ _ rfl (w.heap.size + 1 + 1) 0 rfl (Dp.stCells ⟨Dp.wrap (s.pc + 1), Dp.wrap (s.steps + 1), s.code, s.over, s.regs.set i.a.toNat (Dp.wrap (i.n * 32768))⟩ root) rfl 35 [] _ [] HR3.out rfl (by rw [HM.out]; rfl) (by rw [sizeState, HM.out]) (Dp.stCells_one _ _) ?_)
  intro w4 r4 z4 k4
  go_wp2
  have r4' : Dp.Row w4 (w.heap.size + 1 + 1) 35 (Dp.stCells ⟨Dp.wrap (s.pc + 1), Dp.wrap (s.steps + 1), s.code, s.over, s.regs.set i.a.toNat (Dp.wrap (i.n * 32768))⟩ root) := by simpa using r4
  refine bodyPost_ret (Dp.results_row_tmp rfl _ _ (w.heap.size + 1 + 1) 35 _ _ rfl r4' Tryd.underlying35 rfl (by rw [sizeState, HM.out])) rfl ⟨rfl, ?_⟩
  exact (Dp.tail_keeps _ _ _ _ kk (Nat.le_refl _)).next k4 (fun k hk e => by omega)

end Go.Proofs.YtdipojfngdceoaaDoor

/- The document's answer: a step without a cell or a source comes to the plain one: instructions 4, 5, 6. -/
namespace Go.Proofs.YtdipojfngdceoaaDoor
open Go.RowKit

set_option maxRecDepth 100000 in
set_option maxHeartbeats 1000000 in
theorem refPlain4 (s : Dp.Cs) (root : Int) (i : Dp.Ins) (w : World) (hs : s.Ok) (hi : i.Ok) (hop : i.op = 4) :
    Calls Tryd.prog 50 #[Dp.stVal s root, Dp.insVal i] w fun e w' => e = .returned (.tuple #[Dp.stVal (Dp.plain s i).1 root, .int .i64 (Dp.plain s i).2]) ∧ Dp.Keeps (fun _ => False) w w' := by
  rw [Dp.plain_form s i (Dp.bits 4 (s.reg i.b) (s.reg i.c)) (Dp.wrap (s.pc + 1)) (by rw [hop]; rfl) (by omega) (by omega) (by simp [Dp.aluOf, hop]) (by simp [Dp.nextOf, hop])]
  have hpc := hs.pc
  have hst := hs.steps
  have ha := hs.reg i.a
  have hb := hs.reg i.b
  have hc := hs.reg i.c
  unfold Dp.isWord at hpc hst ha hb hc
  go_enter Tryd.func50, Tryd.ntmps50
  go_wp2_with (refine Dp.wpList_box_row rfl 35 _ rfl (Dp.stCells s root) rfl ?_)
  intro w1 r1 z1 k1
  go_wp2_with (refine Dp.wpList_box_row rfl 98 _ rfl (Dp.insCells i) rfl ?_)
  intro w2 r2 z2 k2
  go_wp2_with (refine Dp.wpList_alloc_row rfl 35 rfl _ zeroState ?_)
  intro w3 r3 z3 k3
  have rs := (r1.keep k2 (fun e => e)).keep k3 (fun e => e)
  have ri := r2.keep k3 (fun e => e)
  have r3' : Dp.Row w3 (w.heap.size + 1 + 1) 35 ([] ++ Dp.stCells ⟨0, 0, 0, false, [0, 0, 0, 0, 0, 0, 0, 0]⟩ 0 ++ []) := by rw [List.append_nil, List.nil_append]; exact r3
  have kk : Dp.Keeps (fun _ => False) w w3 := (k1.trans k2).trans k3
  obtain ⟨c0, c1, c2, c3⟩ := rs.st
  obtain ⟨io, ia, ib, ic, inn⟩ := ri.insC
  have cra := rs.stReg hs.len i.a hi.a
  have crb := rs.stReg hs.len i.b hi.b
  have crc := rs.stReg hs.len i.c hi.c
  have f0 := rs.frozen 0
  have f1 := rs.frozen 1
  have f2 := rs.frozen 2
  have f3 := rs.frozen 3
  have fr := rs.frozen (4 + i.a.toNat)
  have hia := hi.a
  have hib := hi.b
  have hic := hi.c
  have hin := hi.n
  have hl := hs.len
  have hlm : (Dp.stCells ⟨Dp.wrap (s.pc + 1), Dp.wrap (s.steps + 1), s.code, s.over, s.regs.set i.a.toNat (Dp.bits 4 (s.reg i.b) (s.reg i.c))⟩ root).length = 13 := Dp.stCells_length _ _ (by simp [hl])
  have HM : Hid ((Dp.stCells ⟨Dp.wrap (s.pc + 1), Dp.wrap (s.steps + 1), s.code, s.over, s.regs.set i.a.toNat (Dp.bits 4 (s.reg i.b) (s.reg i.c))⟩ root).length = 13) := hlm
  clear r1 z1 k1 r2 z2 k2 r3 z3 k3 ri hlm
  go_wp2_with fail
  refine (refWrap _ _).mono ?_
  rintro e w' ⟨rfl, rfl⟩
  go_wp2_with fail
  refine (refBits _ _ _ _ (by unfold Dp.isWord; omega) (by unfold Dp.isWord; omega) (by decide)).mono ?_
  rintro e w' ⟨rfl, rfl⟩
  go_wp2_with fail
  refine (refWrap _ _).mono ?_
  rintro e w' ⟨rfl, rfl⟩
  have HR := Hid.mk_ (Dp.tail_row (i := i) (Dp.bits 4 (s.reg i.b) (s.reg i.c)) (Dp.wrap (s.pc + 1)) (Dp.wrap (s.steps + 1)) rs hl hia)
  have HR3 := Hid.mk_ (Dp.tail_other (g := w.heap.size) (4 + i.a.toNat) (.int .i64 (Dp.bits 4 (s.reg i.b) (s.reg i.c))) (.int .i64 (Dp.wrap (s.pc + 1))) (.int .i64 (Dp.wrap (s.steps + 1))) r3' (show w.heap.size + 1 + 1 ≠ w.heap.size by omega))
  go_wp2_with (refine Dp.wpList_load_in rfl 35 _ rfl w.heap.size 0 rfl 35 [] _ [] HR.out rfl _ Tryd.underlying35 rfl (by rw [sizeState, HM.out]) ?_)
  intro _
  go_wp2_with (refine Dp.wpList_store_in rfl 35 _ _ rfl (w.heap.size + 1 + 1) 0 rfl (Dp.stCells ⟨Dp.wrap (s.pc + 1), Dp.wrap (s.steps + 1), s.code, s.over, s.regs.set i.a.toNat (Dp.bits 4 (s.reg i.b) (s.reg i.c))⟩ root) rfl 35 [] _ [] HR3.out rfl (by rw [HM.out]; rfl) (by rw [sizeState, HM.out]) (Dp.stCells_one _ _) ?_)
  intro w4 r4 z4 k4
  go_wp2
  have r4' : Dp.Row w4 (w.heap.size + 1 + 1) 35 (Dp.stCells ⟨Dp.wrap (s.pc + 1), Dp.wrap (s.steps + 1), s.code, s.over, s.regs.set i.a.toNat (Dp.bits 4 (s.reg i.b) (s.reg i.c))⟩ root) := by simpa using r4
  refine bodyPost_ret (Dp.results_row_tmp rfl _ _ (w.heap.size + 1 + 1) 35 _ _ rfl r4' Tryd.underlying35 rfl (by rw [sizeState, HM.out])) rfl ⟨rfl, ?_⟩
  exact (Dp.tail_keeps _ _ _ _ kk (Nat.le_refl _)).next k4 (fun k hk e => by omega)

set_option maxRecDepth 100000 in
set_option maxHeartbeats 1000000 in
theorem refPlain5 (s : Dp.Cs) (root : Int) (i : Dp.Ins) (w : World) (hs : s.Ok) (hi : i.Ok) (hop : i.op = 5) :
    Calls Tryd.prog 50 #[Dp.stVal s root, Dp.insVal i] w fun e w' => e = .returned (.tuple #[Dp.stVal (Dp.plain s i).1 root, .int .i64 (Dp.plain s i).2]) ∧ Dp.Keeps (fun _ => False) w w' := by
  rw [Dp.plain_form s i (Dp.bits 5 (s.reg i.b) (s.reg i.c)) (Dp.wrap (s.pc + 1)) (by rw [hop]; rfl) (by omega) (by omega) (by simp [Dp.aluOf, hop]) (by simp [Dp.nextOf, hop])]
  have hpc := hs.pc
  have hst := hs.steps
  have ha := hs.reg i.a
  have hb := hs.reg i.b
  have hc := hs.reg i.c
  unfold Dp.isWord at hpc hst ha hb hc
  go_enter Tryd.func50, Tryd.ntmps50
  go_wp2_with (refine Dp.wpList_box_row rfl 35 _ rfl (Dp.stCells s root) rfl ?_)
  intro w1 r1 z1 k1
  go_wp2_with (refine Dp.wpList_box_row rfl 98 _ rfl (Dp.insCells i) rfl ?_)
  intro w2 r2 z2 k2
  go_wp2_with (refine Dp.wpList_alloc_row rfl 35 rfl _ zeroState ?_)
  intro w3 r3 z3 k3
  have rs := (r1.keep k2 (fun e => e)).keep k3 (fun e => e)
  have ri := r2.keep k3 (fun e => e)
  have r3' : Dp.Row w3 (w.heap.size + 1 + 1) 35 ([] ++ Dp.stCells ⟨0, 0, 0, false, [0, 0, 0, 0, 0, 0, 0, 0]⟩ 0 ++ []) := by rw [List.append_nil, List.nil_append]; exact r3
  have kk : Dp.Keeps (fun _ => False) w w3 := (k1.trans k2).trans k3
  obtain ⟨c0, c1, c2, c3⟩ := rs.st
  obtain ⟨io, ia, ib, ic, inn⟩ := ri.insC
  have cra := rs.stReg hs.len i.a hi.a
  have crb := rs.stReg hs.len i.b hi.b
  have crc := rs.stReg hs.len i.c hi.c
  have f0 := rs.frozen 0
  have f1 := rs.frozen 1
  have f2 := rs.frozen 2
  have f3 := rs.frozen 3
  have fr := rs.frozen (4 + i.a.toNat)
  have hia := hi.a
  have hib := hi.b
  have hic := hi.c
  have hin := hi.n
  have hl := hs.len
  have hlm : (Dp.stCells ⟨Dp.wrap (s.pc + 1), Dp.wrap (s.steps + 1), s.code, s.over, s.regs.set i.a.toNat (Dp.bits 5 (s.reg i.b) (s.reg i.c))⟩ root).length = 13 := Dp.stCells_length _ _ (by simp [hl])
  have HM : Hid ((Dp.stCells ⟨Dp.wrap (s.pc + 1), Dp.wrap (s.steps + 1), s.code, s.over, s.regs.set i.a.toNat (Dp.bits 5 (s.reg i.b) (s.reg i.c))⟩ root).length = 13) := hlm
  clear r1 z1 k1 r2 z2 k2 r3 z3 k3 ri hlm
  go_wp2_with fail
  refine (refWrap _ _).mono ?_
  rintro e w' ⟨rfl, rfl⟩
  go_wp2_with fail
  refine (refBits _ _ _ _ (by unfold Dp.isWord; omega) (by unfold Dp.isWord; omega) (by decide)).mono ?_
  rintro e w' ⟨rfl, rfl⟩
  go_wp2_with fail
  refine (refWrap _ _).mono ?_
  rintro e w' ⟨rfl, rfl⟩
  have HR := Hid.mk_ (Dp.tail_row (i := i) (Dp.bits 5 (s.reg i.b) (s.reg i.c)) (Dp.wrap (s.pc + 1)) (Dp.wrap (s.steps + 1)) rs hl hia)
  have HR3 := Hid.mk_ (Dp.tail_other (g := w.heap.size) (4 + i.a.toNat) (.int .i64 (Dp.bits 5 (s.reg i.b) (s.reg i.c))) (.int .i64 (Dp.wrap (s.pc + 1))) (.int .i64 (Dp.wrap (s.steps + 1))) r3' (show w.heap.size + 1 + 1 ≠ w.heap.size by omega))
  go_wp2_with (refine Dp.wpList_load_in rfl 35 _ rfl w.heap.size 0 rfl 35 [] _ [] HR.out rfl _ Tryd.underlying35 rfl (by rw [sizeState, HM.out]) ?_)
  intro _
  go_wp2_with (refine Dp.wpList_store_in rfl 35 _ _ rfl (w.heap.size + 1 + 1) 0 rfl (Dp.stCells ⟨Dp.wrap (s.pc + 1), Dp.wrap (s.steps + 1), s.code, s.over, s.regs.set i.a.toNat (Dp.bits 5 (s.reg i.b) (s.reg i.c))⟩ root) rfl 35 [] _ [] HR3.out rfl (by rw [HM.out]; rfl) (by rw [sizeState, HM.out]) (Dp.stCells_one _ _) ?_)
  intro w4 r4 z4 k4
  go_wp2
  have r4' : Dp.Row w4 (w.heap.size + 1 + 1) 35 (Dp.stCells ⟨Dp.wrap (s.pc + 1), Dp.wrap (s.steps + 1), s.code, s.over, s.regs.set i.a.toNat (Dp.bits 5 (s.reg i.b) (s.reg i.c))⟩ root) := by simpa using r4
  refine bodyPost_ret (Dp.results_row_tmp rfl _ _ (w.heap.size + 1 + 1) 35 _ _ rfl r4' Tryd.underlying35 rfl (by rw [sizeState, HM.out])) rfl ⟨rfl, ?_⟩
  exact (Dp.tail_keeps _ _ _ _ kk (Nat.le_refl _)).next k4 (fun k hk e => by omega)

set_option maxRecDepth 100000 in
set_option maxHeartbeats 1000000 in
theorem refPlain6 (s : Dp.Cs) (root : Int) (i : Dp.Ins) (w : World) (hs : s.Ok) (hi : i.Ok) (hop : i.op = 6) :
    Calls Tryd.prog 50 #[Dp.stVal s root, Dp.insVal i] w fun e w' => e = .returned (.tuple #[Dp.stVal (Dp.plain s i).1 root, .int .i64 (Dp.plain s i).2]) ∧ Dp.Keeps (fun _ => False) w w' := by
  rw [Dp.plain_form s i (Dp.bits 6 (s.reg i.b) (s.reg i.c)) (Dp.wrap (s.pc + 1)) (by rw [hop]; rfl) (by omega) (by omega) (by simp [Dp.aluOf, hop]) (by simp [Dp.nextOf, hop])]
  have hpc := hs.pc
  have hst := hs.steps
  have ha := hs.reg i.a
  have hb := hs.reg i.b
  have hc := hs.reg i.c
  unfold Dp.isWord at hpc hst ha hb hc
  go_enter Tryd.func50, Tryd.ntmps50
  go_wp2_with (refine Dp.wpList_box_row rfl 35 _ rfl (Dp.stCells s root) rfl ?_)
  intro w1 r1 z1 k1
  go_wp2_with (refine Dp.wpList_box_row rfl 98 _ rfl (Dp.insCells i) rfl ?_)
  intro w2 r2 z2 k2
  go_wp2_with (refine Dp.wpList_alloc_row rfl 35 rfl _ zeroState ?_)
  intro w3 r3 z3 k3
  have rs := (r1.keep k2 (fun e => e)).keep k3 (fun e => e)
  have ri := r2.keep k3 (fun e => e)
  have r3' : Dp.Row w3 (w.heap.size + 1 + 1) 35 ([] ++ Dp.stCells ⟨0, 0, 0, false, [0, 0, 0, 0, 0, 0, 0, 0]⟩ 0 ++ []) := by rw [List.append_nil, List.nil_append]; exact r3
  have kk : Dp.Keeps (fun _ => False) w w3 := (k1.trans k2).trans k3
  obtain ⟨c0, c1, c2, c3⟩ := rs.st
  obtain ⟨io, ia, ib, ic, inn⟩ := ri.insC
  have cra := rs.stReg hs.len i.a hi.a
  have crb := rs.stReg hs.len i.b hi.b
  have crc := rs.stReg hs.len i.c hi.c
  have f0 := rs.frozen 0
  have f1 := rs.frozen 1
  have f2 := rs.frozen 2
  have f3 := rs.frozen 3
  have fr := rs.frozen (4 + i.a.toNat)
  have hia := hi.a
  have hib := hi.b
  have hic := hi.c
  have hin := hi.n
  have hl := hs.len
  have hlm : (Dp.stCells ⟨Dp.wrap (s.pc + 1), Dp.wrap (s.steps + 1), s.code, s.over, s.regs.set i.a.toNat (Dp.bits 6 (s.reg i.b) (s.reg i.c))⟩ root).length = 13 := Dp.stCells_length _ _ (by simp [hl])
  have HM : Hid ((Dp.stCells ⟨Dp.wrap (s.pc + 1), Dp.wrap (s.steps + 1), s.code, s.over, s.regs.set i.a.toNat (Dp.bits 6 (s.reg i.b) (s.reg i.c))⟩ root).length = 13) := hlm
  clear r1 z1 k1 r2 z2 k2 r3 z3 k3 ri hlm
  go_wp2_with fail
  refine (refWrap _ _).mono ?_
  rintro e w' ⟨rfl, rfl⟩
  go_wp2_with fail
  refine (refBits _ _ _ _ (by unfold Dp.isWord; omega) (by unfold Dp.isWord; omega) (by decide)).mono ?_
  rintro e w' ⟨rfl, rfl⟩
  go_wp2_with fail
  refine (refWrap _ _).mono ?_
  rintro e w' ⟨rfl, rfl⟩
  have HR := Hid.mk_ (Dp.tail_row (i := i) (Dp.bits 6 (s.reg i.b) (s.reg i.c)) (Dp.wrap (s.pc + 1)) (Dp.wrap (s.steps + 1)) rs hl hia)
  have HR3 := Hid.mk_ (Dp.tail_other (g := w.heap.size) (4 + i.a.toNat) (.int .i64 (Dp.bits 6 (s.reg i.b) (s.reg i.c))) (.int .i64 (Dp.wrap (s.pc + 1))) (.int .i64 (Dp.wrap (s.steps + 1))) r3' (show w.heap.size + 1 + 1 ≠ w.heap.size by omega))
  go_wp2_with (refine Dp.wpList_load_in rfl 35 _ rfl w.heap.size 0 rfl 35 [] _ [] HR.out rfl _ Tryd.underlying35 rfl (by rw [sizeState, HM.out]) ?_)
  intro _
  go_wp2_with (refine Dp.wpList_store_in rfl 35 _ _ rfl (w.heap.size + 1 + 1) 0 rfl (Dp.stCells ⟨Dp.wrap (s.pc + 1), Dp.wrap (s.steps + 1), s.code, s.over, s.regs.set i.a.toNat (Dp.bits 6 (s.reg i.b) (s.reg i.c))⟩ root) rfl 35 [] _ [] HR3.out rfl (by rw [HM.out]; rfl) (by rw [sizeState, HM.out]) (Dp.stCells_one _ _) ?_)
  intro w4 r4 z4 k4
  go_wp2
  have r4' : Dp.Row w4 (w.heap.size + 1 + 1) 35 (Dp.stCells ⟨Dp.wrap (s.pc + 1), Dp.wrap (s.steps + 1), s.code, s.over, s.regs.set i.a.toNat (Dp.bits 6 (s.reg i.b) (s.reg i.c))⟩ root) := by simpa using r4
  refine bodyPost_ret (Dp.results_row_tmp rfl _ _ (w.heap.size + 1 + 1) 35 _ _ rfl r4' Tryd.underlying35 rfl (by rw [sizeState, HM.out])) rfl ⟨rfl, ?_⟩
  exact (Dp.tail_keeps _ _ _ _ kk (Nat.le_refl _)).next k4 (fun k hk e => by omega)

end Go.Proofs.YtdipojfngdceoaaDoor
