/- Steps on the way: ProgHear, ProgLook, ProgNew, ProgNew2. -/
import Derived.Test.YtdipojfngdceoabGreatDoorPack133
import Derived.Test.YtdipojfngdceoabGreatDoorPack78
import Derived.Test.YtdipojfngdceoabGreatDoorPack80
import Derived.Test.YtdipojfngdceoabGreatDoorPack82
import Derived.Defers
import Derived.Recover
import Derived.LaidEql
/- The program hears a witness: what is wrong is given up by a panic, and recovered. -/
namespace Go.Proofs.YtdipojfngdceoabGreatDoor
open Go.RowKit

theorem errEql (eb : Addr) (w : World) : (binOp .eql 20 (.iface 196 (.pointer (some eb))) (.iface 196 (.pointer (some eb)))).run Tryz.prog w = .ok (.bool true) w := by
  have h1 : (Tryz.prog.info? 196).map (·.comparable) = some true := by kernel_rfl
  have h2 : (Tryz.prog.info? 220).isSome = true := by kernel_rfl
  cases e1 : Tryz.prog.info? 196 with
  | none => rw [e1] at h1; simp at h1
  | some i =>
    cases e2 : Tryz.prog.info? 220 with
    | none => rw [e2] at h2; simp at h2
    | some j =>
      rw [e1] at h1
      exact run_eql_iface_ptr_same w eb Tryz.underlying20 Tryz.underlying196 e1 (by simpa using h1) e2

set_option maxRecDepth 100000 in
set_option maxHeartbeats 200000 in
theorem hear1_panicking (R : Nat) (eb : Addr) (older : List PanicEntry) (acc : List Value) (w : World) (he : Dp.ErrAt w eb) (hr : Dp.Row w R 117 acc) (hl : acc.length = 3) :
    CallsD Tryz.prog 69 #[.pointer (some ⟨R, 0, none⟩)] (.panicking ({ v := .iface 196 (.pointer (some eb)), recovered := false } :: older)) w fun e u' w' =>
      e = .returned (.tuple #[]) ∧ u' = .panicking ({ v := .iface 196 (.pointer (some eb)), recovered := true } :: older) ∧ Dp.Row w' R 117 (Dp.accCells (.slice none 0 0) 0 6) ∧ Dp.Keeps (fun k => k = R) w w' := by
  unfold Dp.ErrAt at he
  refine callsD_of_wpS Tryz.func69 rfl fun c₀ cs hu => ?_
  apply wpS_seq
  apply wpS_region
  simp [wpOpsS, go_sem, recoverD, hu, Tryz.ntmps69, Exit.thenS]
  have heq := errEql eb
  have hnil : ∀ wx, (binOp .eql 20 (.iface 196 (.pointer (some eb))) .nilIface).run Tryz.prog wx = .ok (.bool false) wx := fun wx => run_eql_held_nil (P := Tryz.prog) (w := wx) 20 196 _ (by kernel_rfl)
  refine wpS_of_wp ?_
  have HRR := Hid.mk_ (Dp.row_nil hr)
  have e0 : (#[Value.pointer (some ⟨R, 0, none⟩)] ++ ((Array.replicate 10 undef).setIfInBounds 1 (Value.iface 196 (.pointer (some eb)))).setIfInBounds 0 (Value.iface 196 (.pointer (some eb)))) = #[.pointer (some ⟨R, 0, none⟩), .iface 196 (.pointer (some eb)), .iface 196 (.pointer (some eb)), undef, undef, undef, undef, undef, undef, undef, undef] := rfl
  rw [e0]
  clear e0
  refine Code.wp_mono (Q := fun e a w' => e = .normal ∧ a.defers = [] ∧ Dp.Row w' R 117 (Dp.accCells (.slice none 0 0) 0 6) ∧ Dp.Keeps (fun k => k = R) w w') ?_ ?_
  · rintro e a wx ⟨rfl, hd, h1, h2⟩
    exact ⟨hd, _, rfl, _, results_none rfl _ _ _, rfl, rfl, h1, h2⟩
  clear hu
  have HL := Hid.mk_ hl
  clear hl hr
  have HEQ := Hid.mk_ heq
  clear heq
  go_wp2_with (first | (refine Dp.wpList_binop rfl .eql 20 _ _ _ rfl (.iface 196 (.pointer (some eb))) (.iface 196 (.pointer (some eb))) (.bool true) rfl rfl rfl (HEQ.out _) ?_; intro _) | refine Dp.wpList_store_in rfl 117 _ _ rfl R 0 rfl (Dp.accCells (.slice none 0 0) 0 6) rfl 117 [] _ [] HRR.out rfl (by rw [HL.out]; rfl) (by rw [sizeAcc]; rfl) (Dp.accCells_one _ _ _ rfl) ?_)
  intro w1 r1 z1 k1
  go_wp2
  all_goals exact ⟨rfl, rfl, by simpa using r1, k1⟩

set_option maxRecDepth 100000 in
set_option maxHeartbeats 1000000 in
theorem hear1_idle (R : Nat) (w : World) :
    CallsD Tryz.prog 69 #[.pointer (some ⟨R, 0, none⟩)] .returning w fun e u' w' => e = .returned (.tuple #[]) ∧ u' = .returning ∧ w' = w := by
  refine callsD_of_wpS Tryz.func69 rfl fun c₀ cs hu => ?_
  apply wpS_seq
  apply wpS_region
  simp [wpOpsS, go_sem, recoverD, hu, Tryz.ntmps69, Exit.thenS]
  refine wpS_of_wp ?_
  go_wp2
  refine ⟨rfl, .returning, ?_, _, results_none rfl _ _ _, rfl, rfl, rfl⟩
  cases c₀
  simp_all
namespace Dp
/-- The texts that were believed. -/
def heardTexts (S : Int) (l : List UInt8) : List (List UInt8) := match heard S l with
  | none => []
  | some r => believed l r
end Dp

set_option maxRecDepth 100000 in
set_option maxHeartbeats 1000000 in
theorem progHear (w : World) (eb : Addr) (S : Int) (ad : Option Addr) (cap : Nat) (l : List UInt8) (he : Dp.ErrAt w eb) (hc : Dp.Cutting w (.slice ad l.length cap) l) (_hl : l.length ≤ 9223372036854775807) :
    Calls Tryz.prog 47 #[.int .i64 S, .slice ad l.length cap] w fun e w' => ∃ vt xs, e = .returned (.agg (Dp.accCells vt (Dp.checked S l).1 (Dp.checked S l).2).toArray) ∧ Dp.Own w' 35 vt xs ∧ Dp.TextsAt w w' xs (Dp.heardTexts S l) ∧ (∀ g, vt.ownBlock = some g → w.heap.size ≤ g) ∧ Dp.Keeps (fun _ => False) w w' := by
  have hmf : ∀ (fn : Fn) (first cap : Array Value) (w : World), (Instr.makeFunc fn first cap).run Tryz.prog w = .ok (.func fn first cap) w := fun _ _ _ _ => rfl
  go_enter_defers Tryz.func47, Tryz.ntmps47
  go_wp2_with (refine Dp.wpList_alloc_row rfl 117 rfl _ zeroAcc ?_)
  intro w1 r1 z1 k1
  go_wp2_with fail
  refine (progOf ad l.length cap _).mono ?_
  rintro e w2 ⟨rfl, r2, z2, k2⟩
  have hp : Dp.PartsAt w1 (w.heap.size + 1) w2 l := ⟨by omega, ⟨_, by rw [← z1]; exact r2, hc.still k1⟩, k2⟩
  have he1 := he.keep k1
  have HR1 := Hid.mk_ r1
  clear r2 r1
  rw [z1]
  go_wp2_with fail
  refine (progFollow w1 (w.heap.size + 1) eb S l w2 he1 hp).mono ?_
  intro e w3 h3
  cases hh : Dp.heard S l with
  | none =>
    rw [hh, Dp.after_none] at h3
    obtain ⟨rfl, hk⟩ := h3
    have HC : Hid (Dp.checked S l = (0, 6) ∧ Dp.heardTexts S l = []) := by unfold Hid Dp.checked Dp.heardTexts; rw [hh]; exact ⟨rfl, rfl⟩
    have hr3 := HR1.out.keep hk (fun e => e)
    refine leaves_cons (f := 69) (args := #[.pointer (some ⟨w.heap.size, 0, none⟩)]) (by simp) (by simp [go_sem]) ?_
    refine (hear1_panicking w.heap.size eb [] _ w3 (he1.keep hk) hr3 rfl).mono ?_
    rintro e u' w4 ⟨rfl, rfl, r4, k4⟩
    simp only [Leaves, settle, List.dropWhile_nil]
    refine ⟨_, results_cell_row rfl _ _ w.heap.size 117 _ (0, 0) _ rfl r4 Tryz.underlying117 rfl (by rw [sizeAcc]; rfl), ?_⟩
    rw [HC.out.1, HC.out.2]
    exact ⟨.slice none 0 0, [], rfl, Dp.Own.nil _ _, Dp.TextsAt.nil _ _, fun g hg => by simp [Value.ownBlock] at hg, (k1.trans hk).next k4 (fun i hi e => by omega)⟩
  | some r =>
    rw [hh, Dp.after_some] at h3
    obtain ⟨vt, xs, rfl, ho, ht, hn, hk⟩ := h3
    have HC : Hid (Dp.checked S l = Dp.toldBy (some r) ∧ Dp.heardTexts S l = Dp.believed l r) := by unfold Hid Dp.checked Dp.heardTexts; rw [hh]; exact ⟨rfl, rfl⟩
    have hk2 := k2.size
    have hne : ¬ w.heap.size = w.heap.size + 1 := by omega
    have hr3 := (HR1.out.keep k2 (fun e => e)).keep hk hne
    have HR3 := Hid.mk_ (Dp.row_nil hr3)
    obtain ⟨adt, capt, evt⟩ := ho.isSlice
    subst evt
    have HO := Hid.mk_ ho
    have HT := Hid.mk_ ht
    clear ho ht hr3 hp hh
    go_wp2_with (refine Dp.wpList_store_in rfl 117 _ _ rfl w.heap.size 0 rfl (Dp.accCells (.slice adt xs.length capt) (Dp.toldBy (some r)).1 (Dp.toldBy (some r)).2) rfl 117 [] _ [] HR3.out rfl rfl (by rw [sizeAcc]; rfl) (Dp.accCells_one _ _ _ rfl) ?_)
    intro w4 r4 z4 k4
    have r4' : Dp.Row w4 w.heap.size 117 (Dp.accCells (.slice adt xs.length capt) (Dp.toldBy (some r)).1 (Dp.toldBy (some r)).2) := by simpa using r4
    go_wp2
    refine leaves_cons (f := 69) (args := #[.pointer (some ⟨w.heap.size, 0, none⟩)]) (by simp) (by simp [go_sem]) ?_
    refine (hear1_idle w.heap.size _).mono ?_
    rintro e u' w5 ⟨rfl, rfl, rfl⟩
    simp only [Leaves, settle]
    refine ⟨_, results_cell_row rfl _ _ w.heap.size 117 _ (0, 0) _ rfl r4' Tryz.underlying117 rfl (by rw [sizeAcc]; rfl), ?_⟩
    rw [HC.out.1, HC.out.2]
    have hz3 : Dp.Row w3 w.heap.size 117 (Dp.accCells (.slice none 0 0) 0 0) := by simpa using HR3.out
    have hb : w.heap.size ≤ w2.heap.size := by omega
    exact ⟨_, xs, rfl, HO.out.keep k4 (fun g hg e => by subst e; exact HO.out.ne hz3 (by decide) _ hg rfl), (HT.out.keep k4 (fun g e hg _ => hg.ne hz3 (by decide))).base hb, fun g hg => Nat.le_trans hb (hn g hg), ((k1.trans k2).next hk (fun i hi e => by omega)).next k4 (fun i hi e => by omega)⟩

set_option maxRecDepth 100000 in
set_option maxHeartbeats 1000000 in
theorem progVCheck (w : World) (eb : Addr) (S : Int) (ad : Option Addr) (cap : Nat) (l : List UInt8) (he : Dp.ErrAt w eb) (hc : Dp.Cutting w (.slice ad l.length cap) l) (hl : l.length ≤ 9223372036854775807) :
    Calls Tryz.prog 42 #[.int .i64 S, .slice ad l.length cap] w fun e w' => e = .returned (.tuple #[.int .i64 (Dp.checked S l).1, .int .i64 (Dp.checked S l).2]) ∧ Dp.Keeps (fun _ => False) w w' := by
  go_enter Tryz.func42, Tryz.ntmps42
  go_wp2_with fail
  refine (progHear w eb S ad cap l he hc hl).mono ?_
  rintro e w1 ⟨vt, xs, rfl, ho, ht, hn, k1⟩
  obtain ⟨adt, capt, evt⟩ := ho.isSlice
  subst evt
  clear ho ht hn
  go_wp2_with (refine Dp.wpList_alloc_row rfl 117 rfl _ zeroAcc ?_)
  intro w2 r2 z2 k2
  have HR2 := Hid.mk_ (Dp.row_nil r2)
  clear r2
  go_wp2_with (refine Dp.wpList_store_in rfl 117 _ _ rfl w1.heap.size 0 rfl (Dp.accCells (.slice adt xs.length capt) (Dp.checked S l).1 (Dp.checked S l).2) rfl 117 [] _ [] HR2.out rfl rfl (by rw [sizeAcc]; rfl) (Dp.accCells_one _ _ _ rfl) ?_)
  intro w3 r3 z3 k3
  have r3' : Dp.Row w3 w1.heap.size 117 (Dp.accCells (.slice adt xs.length capt) (Dp.checked S l).1 (Dp.checked S l).2) := by simpa using r3
  have c1 : w3.cell? ⟨w1.heap.size, 1, none⟩ = some (.int .i64 (Dp.checked S l).1) := r3'.cell 1
  have c2 : w3.cell? ⟨w1.heap.size, 2, none⟩ = some (.int .i64 (Dp.checked S l).2) := r3'.cell 2
  have HK : Hid (Dp.Keeps (fun _ => False) w w3) := (k1.trans k2).next k3 (fun i hi e => by have := k1.size; omega)
  clear r3 r3' k3 k2 k1 HR2
  generalize hCC : Dp.checked S l = C at *
  have HCC := Hid.mk_ hCC
  clear hCC
  go_wp2
  go_region
  go_wp2
  go_ret2
  exact ⟨by rw [HCC.out]; rfl, HK.out.drew⟩

set_option maxRecDepth 100000 in
set_option maxHeartbeats 1000000 in
theorem progCheck (w : World) (eb : Addr) (S : Int) (ad : Option Addr) (cap : Nat) (l : List UInt8) (he : Dp.ErrAt w eb) (hc : Dp.Cutting w (.slice ad l.length cap) l) (hl : l.length ≤ 9223372036854775807) :
    Calls Tryz.prog 23 #[.int .i64 S, .slice ad l.length cap] w fun e w' => e = .returned (.tuple #[.int .i64 (Dp.checked S l).1, .int .i64 (Dp.checked S l).2]) ∧ Dp.Keeps (fun _ => False) w w' := by
  go_enter Tryz.func23, Tryz.ntmps23
  go_wp2_with fail
  refine (progVCheck w eb S ad cap l he hc hl).mono ?_
  rintro e w1 ⟨rfl, k1⟩
  go_wp2
  go_ret2
  exact ⟨rfl, k1⟩
end Go.Proofs.YtdipojfngdceoabGreatDoor

/- The program's machine: its state is told. -/
namespace Go.Proofs.YtdipojfngdceoabGreatDoor
open Go.RowKit

namespace Dp
/-- The first k registers told. -/
def lookN (s : Cs) (k : Nat) : Cs := { s with regs := s.regs.take k ++ List.replicate (8 - k) 0 }
theorem lookN_len (s : Cs) (k : Nat) (h : s.regs.length = 8) (hk : k ≤ 8) : (lookN s k).regs.length = 8 := by simp [lookN, h]; omega
theorem lookN_set (s : Cs) (root : Int) (k : Nat) (h : s.regs.length = 8) (hk : k < s.regs.length) : (stCells (lookN s k) root).set (4 + k) (.int .i64 s.regs[k]) = stCells (lookN s (k + 1)) root := by
  have h1 := stCells_put (lookN s k) root (lookN_len s k h (by omega)) (k : Int) s.regs[k] (by omega)
  rw [Int.toNat_natCast] at h1
  rw [h1]
  have h2 : (lookN s k).put (k : Int) s.regs[k] = lookN s (k + 1) := by
    unfold lookN Cs.put
    simp only [Int.toNat_natCast]
    congr 1
    have hl : (s.regs.take k).length = k := by simp; omega
    rw [List.set_append_right _ _ (by omega), hl, Nat.sub_self, List.take_succ_eq_append_getElem hk, show 8 - k = (8 - (k + 1)) + 1 by omega, List.replicate_succ, List.set_cons_zero, List.append_assoc]
    rfl
  rw [h2]
theorem lookN_all (s : Cs) (h : s.regs.length = 8) : lookN s 8 = s := by
  unfold lookN; rw [List.take_of_length_le (Nat.le_of_eq h)]; simp
theorem lookN_cell (s : Cs) (root : Int) (k : Nat) (h : s.regs.length = 8) (hk : k < 8) : ∃ v, (stCells (lookN s k) root)[4 + k]? = some (.int .i64 v) := by
  have h1 := stCells_reg (lookN s k) root (lookN_len s k h (by omega)) (k : Int) (by omega)
  rw [Int.toNat_natCast] at h1
  exact ⟨_, h1⟩
end Dp

set_option maxRecDepth 100000 in
set_option maxHeartbeats 1000000 in
theorem progSLook (s : Dp.Cs) (root : Int) (w : World) (hs : s.Ok) :
    Calls Tryz.prog 43 #[.agg (Dp.stateCells s).toArray, .int .i64 root] w fun e w' => e = .returned (Dp.stVal s root) ∧ Dp.Keeps (fun _ => False) w w' := by
  have hpc := hs.pc
  have hst := hs.steps
  have hco := hs.code
  unfold Dp.isWord at hpc hst hco
  go_enter Tryz.func43, Tryz.ntmps43
  go_wp2_with (refine Dp.wpList_box_row rfl 79 _ rfl (Dp.stateCells s) rfl ?_)
  intro w1 x1 z1 k1
  go_wp2_with (refine Dp.wpList_alloc_row rfl 69 rfl _ zeroState ?_)
  intro w2 y2 z2 k2
  have x2 := x1.keep k2 (fun e => e)
  obtain ⟨c0, c1, c2, c3⟩ := x2.state
  go_wp2_with (refine Dp.wpList_alloc_row rfl 69 rfl _ zeroState ?_)
  intro w3 t3 z3 k3
  have HT3 := Hid.mk_ (Dp.row_nil t3)
  go_wp2_with (refine Dp.wpList_store_in rfl 69 _ _ rfl (w.heap.size + 1 + 1) 0 rfl (Dp.stCells (Dp.lookN s 0) root) rfl 69 [] _ [] HT3.out rfl rfl (by rw [sizeState]; rfl) (Dp.stCells_one _ _) ?_)
  intro w4 t4 z4 k4
  have t4' : Dp.Row w4 (w.heap.size + 1 + 1) 69 (Dp.stCells (Dp.lookN s 0) root) := by simpa using t4
  have hk4 : Dp.Keeps (fun _ => False) w w4 := ((k1.trans k2).trans k3).next k4 (fun k hk e => by omega)
  have y4 := (y2.keep k3 (fun e => e)).keep k4 (show ¬ w.heap.size + 1 = w.heap.size + 1 + 1 by omega)
  have x4 := (x2.keep k3 (fun e => e)).keep k4 (show ¬ w.heap.size = w.heap.size + 1 + 1 by omega)
  have HX : Hid (Dp.Row w4 w.heap.size 79 ([.int .u32 s.pc, .int .u32 s.steps, .int .u32 s.code, .bool s.over] ++ Dp.wordCells s.regs ++ [])) := by unfold Hid; rw [List.append_nil]; exact x4
  have HW : Hid ((Dp.wordCells s.regs).length = 8) := by unfold Hid; simp [Dp.wordCells, hs.len]
  clear x1 y2 x2 t3 HT3 t4 x4 k1 k2 k3 k4 c0 c1 c2 c3 z1 z2 z3 z4
  go_wp2_with (refine Dp.wpList_load_in rfl 77 _ rfl w.heap.size 4 rfl 79 _ _ _ HX.out rfl _ Tryz.underlying77 rfl (by rw [sizeRegs32, HW.out]) ?_)
  intro _
  go_wp2
  go_loopw [6, 7, 23] (fun _ _ i wr => ∃ k : Nat, k ≤ 8 ∧ i = .int .i64 k ∧ Dp.Row wr (w.heap.size + 1 + 1) 69 (Dp.stCells (Dp.lookN s k) root) ∧ Dp.Row wr (w.heap.size + 1) 69 (Dp.stCells ⟨0, 0, 0, false, [0, 0, 0, 0, 0, 0, 0, 0]⟩ 0) ∧ Dp.Keeps (fun _ => False) w wr) (fun _ _ i _ => 8 - (intOf i).toNat)
  case atStart => exact ⟨0, Nat.zero_le _, rfl, t4', y4, hk4⟩
  case round =>
    obtain ⟨k, hk, rfl, tk, yk, kk⟩ := hrel
    clear t4' y4 hk4
    by_cases hk2 : k < 8
    · have hkl : k < s.regs.length := by rw [hs.len]; exact hk2
      have hx : (Dp.wordCells s.regs).toArray[k]? = some (.int .u32 s.regs[k]) := by simp [Dp.wordCells, hkl]
      have hwx := hs.regs _ (List.getElem_mem hkl)
      unfold Dp.isWord at hwx
      have hidx : ∀ wx, (Instr.index 77 (.agg (Dp.wordCells s.regs).toArray) (.int .i64 (k : Int))).run Tryz.prog wx = .ok (.int .u32 s.regs[k]) wx := fun wx => Dp.run_index_one wx 77 76 8 _ k _ (by rfl) (by rfl) (by rfl) hk2 hx
      obtain ⟨cv, hcv⟩ := Dp.lookN_cell s root k hs.len hk2
      have ck : wr.cell? ⟨w.heap.size + 1 + 1, 4 + k, none⟩ = some (.int .i64 cv) := (tk.cell _).trans hcv
      have fk := tk.frozen (4 + k)
      have HR : Hid (Dp.Row (wr.setCell ⟨w.heap.size + 1 + 1, 4 + k, none⟩ (.int .i64 s.regs[k])) (w.heap.size + 1 + 1) 69 (Dp.stCells (Dp.lookN s (k + 1)) root)) := by
        unfold Hid
        have h := tk.set (4 + k) (.int .i64 s.regs[k])
        rw [Dp.lookN_set s root k hs.len hkl] at h
        exact h
      have HY : Hid (Dp.Row (wr.setCell ⟨w.heap.size + 1 + 1, 4 + k, none⟩ (.int .i64 s.regs[k])) (w.heap.size + 1) 69 (Dp.stCells ⟨0, 0, 0, false, [0, 0, 0, 0, 0, 0, 0, 0]⟩ 0)) := yk.setOther _ _ (show w.heap.size + 1 ≠ w.heap.size + 1 + 1 by omega)
      have HK : Hid (Dp.Keeps (fun _ => False) w (wr.setCell ⟨w.heap.size + 1 + 1, 4 + k, none⟩ (.int .i64 s.regs[k]))) := kk.setCell (p := ⟨w.heap.size + 1 + 1, 4 + k, none⟩) (.inl (show w.heap.size ≤ w.heap.size + 1 + 1 by omega)) _
      generalize s.regs[k] = rk at *
      clear HX hx tk yk hcv
      go_wp2
      go_roundw
      case rel => exact ⟨k + 1, by omega, by go_num, HR.out, HY.out, HK.out⟩
      case measure => simp [intOf]; omega
    · have e8 : k = 8 := by omega
      rw [e8, Dp.lookN_all s hs.len] at tk
      clear e8
      have HTK := Hid.mk_ (Dp.row_nil tk)
      have HYK := Hid.mk_ (Dp.row_nil yk)
      have HM : Hid ((Dp.stCells s root).length = 13) := Dp.stCells_length _ _ hs.len
      clear tk yk HX
      go_wp2_with (first | (refine Dp.wpList_store_in rfl 69 _ _ rfl (w.heap.size + 1) 0 rfl (Dp.stCells s root) rfl 69 [] _ [] HYK.out rfl (by rw [HM.out]; rfl) (by rw [sizeState, HM.out]) (Dp.stCells_one _ _) ?_) | (refine Dp.wpList_load_in rfl 69 _ rfl (w.heap.size + 1 + 1) 0 rfl 69 [] _ _ HTK.out rfl _ Tryz.underlying69 rfl (by rw [sizeState, HM.out]) ?_; intro _))
      intro w5 r5 z5 k5
      go_wp2
      have r5' : Dp.Row w5 (w.heap.size + 1) 69 (Dp.stCells s root) := by simpa using r5
      refine bodyPost_ret (v := Dp.stVal s root) (results_cell_row rfl _ _ (w.heap.size + 1) 69 _ (0, 0) _ rfl r5' Tryz.underlying69 rfl (by rw [sizeState, List.size_toArray, HM.out])) rfl ⟨rfl, ?_⟩
      exact kk.next k5 (fun k hk e => by omega)

set_option maxRecDepth 100000 in
set_option maxHeartbeats 1000000 in
theorem progMLook (w : World) (b : Nat) (G : Nat → Prop) (vs : Value) (m : Dp.Mach) (h : Dp.ProgM w b G vs m) :
    Calls Tryz.prog 24 #[.pointer (some ⟨b, 0, none⟩)] w fun e w' => e = .returned (Dp.stVal m.s (Dp.root m.cells)) ∧ Dp.Keeps (fun _ => False) w w' := by
  have H := Hid.mk_ h
  have hrow := h.row
  have hlen := h.ok.s.len
  clear h
  obtain ⟨⟨pc, st, co, ov, regs⟩, cells, srcs⟩ := m
  obtain ⟨r0, r1, r2, r3, r4, r5, r6, r7, rfl⟩ := Dp.list8 hlen

  go_enter Tryz.func24, Tryz.ntmps24
  go_wp2_with (refine Dp.wpList_alloc_row rfl 69 rfl _ zeroState ?_)
  intro w1 y1 z1 k1
  have hrow1 := hrow.keep k1 (fun e => e)
  have q0 : ∀ wx, Dp.Keeps (fun _ => False) w1 wx → wx.cell? ⟨b, 0, none⟩ = some (.int .u32 pc) := fun wx kx => by rw [(hrow1.keep kx (fun e => e)).cell]; rfl
  have q1 : ∀ wx, Dp.Keeps (fun _ => False) w1 wx → wx.cell? ⟨b, 1, none⟩ = some (.int .u32 st) := fun wx kx => by rw [(hrow1.keep kx (fun e => e)).cell]; rfl
  have q2 : ∀ wx, Dp.Keeps (fun _ => False) w1 wx → wx.cell? ⟨b, 2, none⟩ = some (.int .u32 co) := fun wx kx => by rw [(hrow1.keep kx (fun e => e)).cell]; rfl
  have q3 : ∀ wx, Dp.Keeps (fun _ => False) w1 wx → wx.cell? ⟨b, 3, none⟩ = some (.bool ov) := fun wx kx => by rw [(hrow1.keep kx (fun e => e)).cell]; rfl
  have q4 : ∀ wx, Dp.Keeps (fun _ => False) w1 wx → wx.cell? ⟨b, 4, none⟩ = some (.int .u32 r0) := fun wx kx => by rw [(hrow1.keep kx (fun e => e)).cell]; rfl
  have q5 : ∀ wx, Dp.Keeps (fun _ => False) w1 wx → wx.cell? ⟨b, 5, none⟩ = some (.int .u32 r1) := fun wx kx => by rw [(hrow1.keep kx (fun e => e)).cell]; rfl
  have q6 : ∀ wx, Dp.Keeps (fun _ => False) w1 wx → wx.cell? ⟨b, 6, none⟩ = some (.int .u32 r2) := fun wx kx => by rw [(hrow1.keep kx (fun e => e)).cell]; rfl
  have q7 : ∀ wx, Dp.Keeps (fun _ => False) w1 wx → wx.cell? ⟨b, 7, none⟩ = some (.int .u32 r3) := fun wx kx => by rw [(hrow1.keep kx (fun e => e)).cell]; rfl
  have q8 : ∀ wx, Dp.Keeps (fun _ => False) w1 wx → wx.cell? ⟨b, 8, none⟩ = some (.int .u32 r4) := fun wx kx => by rw [(hrow1.keep kx (fun e => e)).cell]; rfl
  have q9 : ∀ wx, Dp.Keeps (fun _ => False) w1 wx → wx.cell? ⟨b, 9, none⟩ = some (.int .u32 r5) := fun wx kx => by rw [(hrow1.keep kx (fun e => e)).cell]; rfl
  have q10 : ∀ wx, Dp.Keeps (fun _ => False) w1 wx → wx.cell? ⟨b, 10, none⟩ = some (.int .u32 r6) := fun wx kx => by rw [(hrow1.keep kx (fun e => e)).cell]; rfl
  have q11 : ∀ wx, Dp.Keeps (fun _ => False) w1 wx → wx.cell? ⟨b, 11, none⟩ = some (.int .u32 r7) := fun wx kx => by rw [(hrow1.keep kx (fun e => e)).cell]; rfl
  have hS0 : Dp.Keeps (fun _ => False) w1 w1.drew := (Dp.Keeps.refl _ _).drew
  go_wp2
  refine Dp.wp_region_L (fun wx => Dp.Keeps (fun _ => False) w1 wx) 8 mixedP ?_
  refine' Dp.wpAnyL_take 0 rfl (by kernel_rfl) (fun _ _ _ h => h) (by rfl) ?hy0 hS0 ?rest0
  case hy0 => intro wx hSx; go_simp; try with_reducible rfl
  simp only [Act.put, List.getElem_toArray, List.getElem_cons_zero, List.setIfInBounds_toArray, List.set_cons_zero, List.set_cons_succ]
  refine' Dp.wpAnyL_take 1 rfl (by kernel_rfl) (fun _ _ _ h => h) (by rfl) ?hy1 hS0 ?rest1
  case hy1 => intro wx hSx; go_simp; try with_reducible rfl
  simp only [Act.put, List.getElem_toArray, List.getElem_cons_zero, List.getElem_cons_succ, List.setIfInBounds_toArray, List.set_cons_zero, List.set_cons_succ]
  refine' Dp.wpAnyL_take 2 rfl (by kernel_rfl) (fun _ _ _ h => h) (by rfl) ?hy2 hS0 ?rest2
  case hy2 => intro wx hSx; go_simp; try with_reducible rfl
  simp only [Act.put, List.getElem_toArray, List.getElem_cons_zero, List.getElem_cons_succ, List.setIfInBounds_toArray, List.set_cons_zero, List.set_cons_succ]
  refine' Dp.wpAnyL_take 3 rfl (by kernel_rfl) (fun _ _ _ h => h) (by rfl) ?hy3 hS0 ?rest3
  case hy3 => intro wx hSx; go_simp; try with_reducible rfl
  simp only [Act.put, List.getElem_toArray, List.getElem_cons_zero, List.getElem_cons_succ, List.setIfInBounds_toArray, List.set_cons_zero, List.set_cons_succ]
  refine' Dp.wpAnyL_take 4 rfl (by kernel_rfl) (fun _ _ _ h => h) (by rfl) ?hy4 hS0 ?rest4
  case hy4 => intro wx hSx; go_simp; try with_reducible rfl
  simp only [Act.put, List.getElem_toArray, List.getElem_cons_zero, List.getElem_cons_succ, List.setIfInBounds_toArray, List.set_cons_zero, List.set_cons_succ]
  refine' Dp.wpAnyL_take 5 rfl (by kernel_rfl) (fun _ _ _ h => h) (by rfl) ?hy5 hS0 ?rest5
  case hy5 => intro wx hSx; go_simp; try with_reducible rfl
  simp only [Act.put, List.getElem_toArray, List.getElem_cons_zero, List.getElem_cons_succ, List.setIfInBounds_toArray, List.set_cons_zero, List.set_cons_succ]
  refine' Dp.wpAnyL_take 6 rfl (by kernel_rfl) (fun _ _ _ h => h) (by rfl) ?hy6 hS0 ?rest6
  case hy6 => intro wx hSx; go_simp; try with_reducible rfl
  simp only [Act.put, List.getElem_toArray, List.getElem_cons_zero, List.getElem_cons_succ, List.setIfInBounds_toArray, List.set_cons_zero, List.set_cons_succ]
  refine Dp.wpAnyL_one 7 rfl (by kernel_rfl) (by rfl) (fun K hK => ?_)
  go_simp
  have HR2 : Hid (Dp.Row w1.drew b 86 (Dp.stateCells ⟨pc, st, co, ov, [r0, r1, r2, r3, r4, r5, r6, r7]⟩ ++ Dp.memCells vs cells ++ [])) := by unfold Hid; rw [List.append_nil]; exact hrow1
  refine (progRoot w1.drew b 12 _ _ _ vs cells H.out.ok.len HR2.out rfl H.out.ok.cells).mono ?_
  rintro e w2 ⟨rfl, k2⟩
  have hS1 := hS0.trans k2
  refine hK _ _ ⟨fun _ => hS1, ?_⟩
  clear hK K
  refine Dp.wpAnyL_rest (by kernel_rfl) ?_
  refine Dp.wpAny_tail 8 rfl (by kernel_rfl) ?_
  simp only [List.drop_succ_cons, List.drop_zero]
  clear q0 q1 q2 q3 q4 q5 q6 q7 q8 q9 q10 q11
  go_wp2_with fail
  refine (progSLook ⟨pc, st, co, ov, [r0, r1, r2, r3, r4, r5, r6, r7]⟩ (Dp.root cells) _ H.out.ok.s).mono ?_
  rintro e w3 ⟨rfl, k3⟩
  have HY3 := Hid.mk_ (Dp.row_nil ((y1.keep hS1 (fun e => e)).keep k3 (fun e => e)))
  have HK3 := Hid.mk_ ((k1.trans hS1).trans k3)
  clear y1 hS1 hS0 k1 k2 k3 z1
  have HM : Hid ((Dp.stCells ⟨pc, st, co, ov, [r0, r1, r2, r3, r4, r5, r6, r7]⟩ (Dp.root cells)).length = 13) := Dp.stCells_length _ _ rfl
  have HV : Hid (∃ S : Dp.Cs, ∃ R : Int, S = ⟨pc, st, co, ov, [r0, r1, r2, r3, r4, r5, r6, r7]⟩ ∧ R = Dp.root cells) := ⟨_, _, rfl, rfl⟩
  obtain ⟨S, R, hS, hR⟩ := HV.out
  rw [← hS, ← hR] at HM ⊢
  have HSR := Hid.mk_ (And.intro hS hR)
  clear HV hS hR
  go_wp2_with (refine Dp.wpList_store_in rfl 69 _ _ rfl w.heap.size 0 rfl (Dp.stCells S R) rfl 69 [] _ [] HY3.out rfl (by rw [HM.out]; rfl) (by rw [sizeState, HM.out]) (Dp.stCells_one _ _) ?_)
  intro w5 r5x z5 k5
  go_wp2
  have r5' : Dp.Row w5 w.heap.size 69 (Dp.stCells S R) := by simpa using r5x
  refine bodyPost_ret (v := Dp.stVal S R) (results_cell_row rfl _ _ w.heap.size 69 _ (0, 0) _ rfl r5' Tryz.underlying69 rfl (by rw [sizeState, List.size_toArray, HM.out])) rfl ?_
  rw [HSR.out.1, HSR.out.2]
  exact ⟨rfl, HK3.out.next k5 (fun k hk e => by omega)⟩

end Go.Proofs.YtdipojfngdceoabGreatDoor

/- The program's memory and machine are made: the checks. -/
namespace Go.Proofs.YtdipojfngdceoabGreatDoor
open Go.RowKit

namespace Dp
def wordsOk (words : List Int) : Bool := decide (words.length ≤ 256) && words.all (fun x => decide (0 ≤ x) && decide (x < 4294967296))
def srcsOk (srcs : List (List UInt8)) : Bool := decide (srcs.length ≤ 8) && srcs.all (fun l => decide (l.length ≤ 200))
theorem newOk_both (words : List Int) (srcs : List (List UInt8)) : newOk words srcs = (wordsOk words && srcsOk srcs) := by
  unfold newOk wordsOk srcsOk
  cases decide (words.length ≤ 256) <;> cases decide (srcs.length ≤ 8) <;> simp
theorem wordsOk_false (words : List Int) (k : Nat) (hk : k < words.length) (h : words[k] < 0 ∨ 4294967295 < words[k]) : wordsOk words = false := by
  unfold wordsOk
  have : words.all (fun x => decide (0 ≤ x) && decide (x < 4294967296)) = false := by
    rw [List.all_eq_false]
    exact ⟨words[k], List.getElem_mem hk, by simp; omega⟩
  rw [this]; simp
theorem wordsOk_true (words : List Int) (h1 : words.length ≤ 256) (h : ∀ k (hk : k < words.length), 0 ≤ words[k] ∧ words[k] ≤ 4294967295) : wordsOk words = true := by
  unfold wordsOk
  simp only [Bool.and_eq_true, decide_eq_true_eq, List.all_eq_true]
  refine ⟨h1, fun x hx => ?_⟩
  obtain ⟨k, hk, rfl⟩ := List.getElem_of_mem hx
  have := h k hk
  omega
theorem srcsOk_false (srcs : List (List UInt8)) (k : Nat) (hk : k < srcs.length) (h : 200 < srcs[k].length) : srcsOk srcs = false := by
  unfold srcsOk
  have : srcs.all (fun l => decide (l.length ≤ 200)) = false := by
    rw [List.all_eq_false]
    exact ⟨srcs[k], List.getElem_mem hk, by simp; omega⟩
  rw [this]; simp
theorem srcsOk_true (srcs : List (List UInt8)) (h1 : srcs.length ≤ 8) (h : ∀ k (hk : k < srcs.length), srcs[k].length ≤ 200) : srcsOk srcs = true := by
  unfold srcsOk
  simp only [Bool.and_eq_true, decide_eq_true_eq, List.all_eq_true]
  refine ⟨h1, fun x hx => ?_⟩
  obtain ⟨k, hk, rfl⟩ := List.getElem_of_mem hx
  exact h k hk
end Dp

set_option maxRecDepth 100000 in
set_option maxHeartbeats 1000000 in
theorem progAreCells (w : World) (vW : Value) (words : List Int) (hW : Dp.Ints w vW words) (h64 : ∀ x ∈ words, -9223372036854775808 ≤ x ∧ x ≤ 9223372036854775807) :
    Calls Tryz.prog 62 #[vW] w fun e w' => e = .returned (.bool (Dp.wordsOk words)) ∧ w' = w := by
  obtain ⟨b, o, ad, cap, rfl, hlen, hne, hc⟩ := hW
  by_cases h256 : 256 < words.length
  · have HF : Hid (Dp.wordsOk words = false) := by
      unfold Hid Dp.wordsOk
      have : decide (words.length ≤ 256) = false := by simp; omega
      rw [this]; rfl
    clear hc hne
    go_enter Tryz.func62, Tryz.ntmps62
    go_wp2
    go_ret
    rw [HF.out]
    exact ⟨rfl, rfl⟩
  · have HC := Hid.mk_ hc
    have HN := Hid.mk_ hne
    have H64 := Hid.mk_ h64
    clear hc hne h64
    go_enter Tryz.func62, Tryz.ntmps62
    go_wp2
    go_loop [4, 10] (fun _ i => ∃ k : Nat, k ≤ words.length ∧ i = .int .i64 k ∧ Hid (∀ j (hj : j < words.length), j < k → 0 ≤ words[j] ∧ words[j] ≤ 4294967295)) (fun _ i => words.length - (intOf i).toNat)
    case atStart => exact ⟨0, Nat.zero_le _, rfl, fun j _ hj => absurd hj (by omega)⟩
    case round =>
      obtain ⟨k, hk, rfl, hno⟩ := hrel
      by_cases hlt : k < words.length
      · obtain ⟨rfl, _⟩ := HN.out (by intro e; simp [e] at hlt)
        have ck := HC.out k hlt
        have h64 := H64.out _ (List.getElem_mem hlt)
        by_cases hlo : words[k] < 0
        · have HF := Hid.mk_ (Dp.wordsOk_false words k hlt (.inl hlo))
          generalize words[k] = x at *
          go_wp2
          go_ret
          rw [HF.out]
          exact ⟨rfl, rfl⟩
        · by_cases hhi : 4294967295 < words[k]
          · have HF := Hid.mk_ (Dp.wordsOk_false words k hlt (.inr hhi))
            generalize words[k] = x at *
            go_wp2
            go_ret
            rw [HF.out]
            exact ⟨rfl, rfl⟩
          · have HNX : Hid (∀ j (hj : j < words.length), j < k + 1 → 0 ≤ words[j] ∧ words[j] ≤ 4294967295) := by
              intro j hj hjk
              by_cases e : j = k
              · subst e; omega
              · exact hno.out j hj (by omega)
            generalize words[k] = x at *
            go_wp2
            go_round
            case rel => exact ⟨k + 1, by omega, by go_num, HNX⟩
            case measure => simp [intOf]; omega
      · have HF := Hid.mk_ (Dp.wordsOk_true words (by omega) (fun j hj => hno.out j hj (by omega)))
        go_wp2
        go_ret
        rw [HF.out]
        exact ⟨rfl, rfl⟩

set_option maxRecDepth 100000 in
set_option maxHeartbeats 1000000 in
theorem progAreSources (w : World) (vS : Value) (srcs : List (List UInt8)) (hS : Dp.Parts w vS srcs) (hl : srcs.length ≤ 1048576) (hb : ∀ l ∈ srcs, l.length ≤ 1048576) :
    Calls Tryz.prog 63 #[vS] w fun e w' => e = .returned (.bool (Dp.srcsOk srcs)) ∧ w' = w := by
  obtain ⟨b, o, ad, cap, rfl, hlen, hne, hc⟩ := hS
  by_cases h8 : 8 < srcs.length
  · have HF : Hid (Dp.srcsOk srcs = false) := by
      unfold Hid Dp.srcsOk
      have : decide (srcs.length ≤ 8) = false := by simp; omega
      rw [this]; rfl
    clear hc hne
    go_enter Tryz.func63, Tryz.ntmps63
    go_wp2
    go_ret
    rw [HF.out]
    exact ⟨rfl, rfl⟩
  · have HC := Hid.mk_ hc
    have HN := Hid.mk_ hne
    have HB := Hid.mk_ hb
    clear hc hne hb
    go_enter Tryz.func63, Tryz.ntmps63
    go_wp2
    go_loop [4, 10] (fun _ i => ∃ k : Nat, k ≤ srcs.length ∧ i = .int .i64 k ∧ Hid (∀ j (hj : j < srcs.length), j < k → srcs[j].length ≤ 200)) (fun _ i => srcs.length - (intOf i).toNat)
    case atStart => exact ⟨0, Nat.zero_le _, rfl, fun j _ hj => absurd hj (by omega)⟩
    case round =>
      obtain ⟨k, hk, rfl, hno⟩ := hrel
      by_cases hlt : k < srcs.length
      · obtain rfl := HN.out (by intro e; simp [e] at hlt)
        obtain ⟨vi, ck, b2, o2, ad2, cap2, rfl, hl2, h3, h4⟩ := HC.out k hlt
        clear hl2 h3 h4
        have hbk := HB.out _ (List.getElem_mem hlt)
        by_cases hhi : 200 < srcs[k].length
        · have HF := Hid.mk_ (Dp.srcsOk_false srcs k hlt hhi)
          generalize srcs[k].length = x at *
          go_wp2
          go_ret
          rw [HF.out]
          exact ⟨rfl, rfl⟩
        · have HNX : Hid (∀ j (hj : j < srcs.length), j < k + 1 → srcs[j].length ≤ 200) := by
            intro j hj hjk
            by_cases e : j = k
            · subst e; omega
            · exact hno.out j hj (by omega)
          generalize srcs[k].length = x at *
          go_wp2
          go_round
          case rel => exact ⟨k + 1, by omega, by go_num, HNX⟩
          case measure => simp [intOf]; omega
      · have HF := Hid.mk_ (Dp.srcsOk_true srcs (by omega) (fun j hj => hno.out j hj (by omega)))
        go_wp2
        go_ret
        rw [HF.out]
        exact ⟨rfl, rfl⟩

end Go.Proofs.YtdipojfngdceoabGreatDoor

/- The program's memory is made. -/
namespace Go.Proofs.YtdipojfngdceoabGreatDoor
open Go.RowKit

namespace Dp
theorem Ints.still {w w' : World} {v : Value} {l : List Int} (h : Ints w v l) (k : Keeps (fun _ => False) w w') : Ints w' v l := by
  obtain ⟨b, o, ad, cap, h1, h2, h3, h4⟩ := h
  exact ⟨b, o, ad, cap, h1, h2, fun e => ⟨(h3 e).1, Nat.lt_of_lt_of_le (h3 e).2 k.size⟩, fun j hj => (k.cell (p := ⟨b, o + j, none⟩) (cell_lt (h4 j hj)) (fun e => e)).trans (h4 j hj)⟩
theorem Parts.still {w w' : World} {v : Value} {ls : List (List UInt8)} (h : Parts w v ls) (k : Keeps (fun _ => False) w w') : Parts w' v ls := by
  obtain ⟨b, o, ad, cap, h1, h2, h3, h4⟩ := h
  refine ⟨b, o, ad, cap, h1, h2, h3, fun i hi => ?_⟩
  obtain ⟨vi, hc, hb⟩ := h4 i hi
  exact ⟨vi, (k.cell (p := ⟨b, o + i, none⟩) (cell_lt hc) (fun e => e)).trans hc, hb.still k⟩
def zeroMemCells : List Value := memCells (.slice none 0 0) (List.replicate 256 0)
theorem memCells_length (vs : Value) (cells : List Int) : (memCells vs cells).length = cells.length + 1 := by simp [memCells, wordCells]
theorem zeroMemCells_length : zeroMemCells.length = 257 := by unfold zeroMemCells; rw [memCells_length, List.length_replicate]
theorem memCells_one (vs : Value) (cells : List Int) (h : vs.oneCell' = true) : ∀ v ∈ memCells vs cells, v.oneCell' = true := by
  intro v hv
  simp only [memCells, wordCells, List.mem_cons, List.mem_map] at hv
  rcases hv with rfl | ⟨x, _, rfl⟩
  · exact h
  · rfl
end Dp
theorem infoSource : (Tryz.prog.info? 93).map (fun i => (i.zero, i.size, i.bytes)) = some (some (.slice none 0 0), 1, 24) := by kernel_rfl

set_option maxRecDepth 100000 in
set_option maxHeartbeats 1000000 in
theorem progMemNewErr (w : World) (vW vS : Value) (words : List Int) (srcs : List (List UInt8)) (hW : Dp.Ints w vW words) (h64 : ∀ x ∈ words, -9223372036854775808 ≤ x ∧ x ≤ 9223372036854775807) (hS : Dp.Parts w vS srcs) (hl : srcs.length ≤ 1048576) (hb : ∀ l ∈ srcs, l.length ≤ 1048576) (hok : Dp.newOk words srcs = false) :
    Calls Tryz.prog 38 #[vW, vS] w fun e w' => e = .returned (.tuple #[.agg Dp.zeroMemCells.toArray, .int .i64 1]) ∧ Dp.Keeps (fun _ => False) w w' := by
  rw [Dp.newOk_both] at hok
  have hbm := fun wx => buildMem wx
  go_enter Tryz.func38, Tryz.ntmps38
  go_wp2_with (refine Dp.wpList_alloc_row rfl 84 rfl _ zeroMem ?_)
  intro w1 r1 z1 k1
  have HR1 : Hid (Dp.Row w1 w.heap.size 84 ([] ++ Dp.zeroMemCells ++ [])) := Dp.row_nil r1
  clear r1
  go_wp2_with fail
  refine (progAreCells w1 vW words (hW.still k1) h64).mono ?_
  rintro e w2 ⟨rfl, rfl⟩
  cases h1 : Dp.wordsOk words with
  | false =>
    go_wp2_with (refine Dp.wpList_store_in rfl 84 _ _ rfl w.heap.size 0 rfl Dp.zeroMemCells rfl 84 [] _ [] HR1.out rfl rfl (by rw [sizeMem, Dp.zeroMemCells_length]) (Dp.memCells_one _ _ rfl) ?_)
    intro w3 r3 z3 k3
    go_wp2
    have r3' : Dp.Row w3 w.heap.size 84 Dp.zeroMemCells := by simpa using r3
    refine bodyPost_ret (v := .tuple #[.agg Dp.zeroMemCells.toArray, .int .i64 1]) (Dp.results_row_tmp (p := 4) (u := 5) (ty := 84) rfl _ _ w.heap.size 84 _ _ rfl r3' Tryz.underlying84 rfl (by rw [sizeMem, Dp.zeroMemCells_length])) rfl ⟨rfl, ?_⟩
    exact k1.next k3 (fun k hk e => by omega)
  | true =>
    have h2 : Dp.srcsOk srcs = false := by rw [h1] at hok; simpa using hok
    go_wp2_with fail
    refine (progAreSources w2 vS srcs (hS.still k1) hl hb).mono ?_
    rintro e w3 ⟨rfl, rfl⟩
    rw [h2]
    go_wp2_with (refine Dp.wpList_store_in rfl 84 _ _ rfl w.heap.size 0 rfl Dp.zeroMemCells rfl 84 [] _ [] HR1.out rfl rfl (by rw [sizeMem, Dp.zeroMemCells_length]) (Dp.memCells_one _ _ rfl) ?_)
    intro w4 r3 z3 k3
    go_wp2
    have r3' : Dp.Row w4 w.heap.size 84 Dp.zeroMemCells := by simpa using r3
    refine bodyPost_ret (v := .tuple #[.agg Dp.zeroMemCells.toArray, .int .i64 1]) (Dp.results_row_tmp (p := 4) (u := 5) (ty := 84) rfl _ _ w.heap.size 84 _ _ rfl r3' Tryz.underlying84 rfl (by rw [sizeMem, Dp.zeroMemCells_length])) rfl ⟨rfl, ?_⟩
    exact k1.next k3 (fun k hk e => by omega)

end Go.Proofs.YtdipojfngdceoabGreatDoor
