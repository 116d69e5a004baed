/- Steps on the way: ProgHear, ProgRecord, ProgRecord2, ProgRecord3. -/
import Derived.Test.YtdipojfngdceoaaGreatDoorShQ09
import Derived.Test.YtdipojfngdceoaaGreatDoorShQ11
import Derived.Test.YtdipojfngdceoaaGreatDoorShQ13
import Derived.Test.YtdipojfngdceoaaGreatDoorShQ14
import Derived.Test.YtdipojfngdceoaaGreatDoorShQ27
import Derived.Test.YtdipojfngdceoaaGreatDoorShQ28
import Derived.Test.YtdipojfngdceoaaGreatDoorShQ30
import Derived.Test.YtdipojfngdceoaaGreatDoorShQ33
import Derived.Test.YtdipojfngdceoaaGreatDoorShQ35
import Derived.Test.YtdipojfngdceoaaGreatDoorShQ36
import Derived.Defers
import Derived.Recover
import Derived.LaidEql
namespace Go.Proofs.YtdipojfngdceoaaGreatDoor
open Go.RowKit
theorem errEql (eb : Addr) (w : World) : (binOp .eql 20 (.iface 202 (.pointer (some eb))) (.iface 202 (.pointer (some eb)))).run Tryz.prog w = .ok (.bool true) w := by
 have h1 : (Tryz.prog.info? 202).map (·.comparable) = some true := by kernel_rfl
 have h2 : (Tryz.prog.info? 226).isSome = true := by kernel_rfl
 cases e1 : Tryz.prog.info? 202 with
 | none => rw [e1] at h1; simp at h1
 | some i =>
  cases e2 : Tryz.prog.info? 226 with
  | none => rw [e2] at h2; simp at h2
  | some j =>
   rw [e1] at h1
   exact run_eql_iface_ptr_same w eb Tryz.underlying20 Tryz.underlying202 e1 (by simpa using h1) e2
set_option maxRecDepth 100000 in
set_option maxHeartbeats 200000 in
theorem hear1_panicking (R : Nat) (eb : Addr) (older : List PanicEntry) (acc : List Value) (w : World) (he : Dp.ErrAt w eb) (hr : Dp.Row w R 126 acc) (hl : acc.length = 3) :
  CallsD Tryz.prog 99 #[.pointer (some ⟨R, 0, none⟩)] (.panicking ({ v := .iface 202 (.pointer (some eb)), recovered := false } :: older)) w fun e u' w' =>
   e = .returned (.tuple #[]) ∧ u' = .panicking ({ v := .iface 202 (.pointer (some eb)), recovered := true } :: older) ∧ Dp.Row w' R 126 (Dp.accCells (.slice none 0 0) 0 6) ∧ Dp.Keeps (fun k => k = R) w w' := by
 unfold Dp.ErrAt at he
 refine callsD_of_wpS Tryz.func99 rfl fun c₀ cs hu => ?_
 apply wpS_seq
 apply wpS_region
 simp [wpOpsS, go_sem, recoverD, hu, Tryz.ntmps99, Exit.thenS]
 have heq := errEql eb
 have hnil : ∀ wx, (binOp .eql 20 (.iface 202 (.pointer (some eb))) .nilIface).run Tryz.prog wx = .ok (.bool false) wx := fun wx => run_eql_held_nil (P := Tryz.prog) (w := wx) 20 202 _ (by kernel_rfl)
 refine wpS_of_wp ?_
 have HRR := Hid.mk_ (Dp.row_nil hr)
 have e0 : (#[Value.pointer (some ⟨R, 0, none⟩)] ++ ((Array.replicate 10 undef).setIfInBounds 1 (Value.iface 202 (.pointer (some eb)))).setIfInBounds 0 (Value.iface 202 (.pointer (some eb)))) = #[.pointer (some ⟨R, 0, none⟩), .iface 202 (.pointer (some eb)), .iface 202 (.pointer (some eb)), undef, undef, undef, undef, undef, undef, undef, undef] := rfl
 rw [e0]
 clear e0
 refine Code.wp_mono (Q := fun e a w' => e = .normal ∧ a.defers = [] ∧ Dp.Row w' R 126 (Dp.accCells (.slice none 0 0) 0 6) ∧ Dp.Keeps (fun k => k = R) w w') ?_ ?_
 ·rintro e a wx ⟨rfl, hd, h1, h2⟩
  exact ⟨hd, _, rfl, _, results_none rfl _ _ _, rfl, rfl, h1, h2⟩
 clear hu
 have HL := Hid.mk_ hl
 clear hl hr
 have HEQ := Hid.mk_ heq
 clear heq
 go_wp2_with (first | (refine Dp.wpList_binop rfl .eql 20 _ _ _ rfl (.iface 202 (.pointer (some eb))) (.iface 202 (.pointer (some eb))) (.bool true) rfl rfl rfl (HEQ.out _) ?_; intro _) | refine Dp.wpList_store_in rfl 126 _ _ rfl R 0 rfl (Dp.accCells (.slice none 0 0) 0 6) rfl 126 [] _ [] HRR.out rfl (by rw [HL.out]; rfl) (by rw [sizeAcc]; rfl) (Dp.accCells_one _ _ _ rfl) ?_)
 intro w1 r1 z1 k1
 go_wp2
 all_goals exact ⟨rfl, rfl, by simpa using r1, k1⟩
set_option maxRecDepth 100000 in
set_option maxHeartbeats 1000000 in
theorem hear1_idle (R : Nat) (w : World) :
  CallsD Tryz.prog 99 #[.pointer (some ⟨R, 0, none⟩)] .returning w fun e u' w' => e = .returned (.tuple #[]) ∧ u' = .returning ∧ w' = w := by
 refine callsD_of_wpS Tryz.func99 rfl fun c₀ cs hu => ?_
 apply wpS_seq
 apply wpS_region
 simp [wpOpsS, go_sem, recoverD, hu, Tryz.ntmps99, Exit.thenS]
 refine wpS_of_wp ?_
 go_wp2
 refine ⟨rfl, .returning, ?_, _, results_none rfl _ _ _, rfl, rfl, rfl⟩
 cases c₀
 simp_all
namespace Dp
def heardTexts (S : Int) (l : List UInt8) : List (List UInt8) := match heard S l with
 | none => []
 | some r => believed l r
end Dp
set_option maxRecDepth 100000 in
set_option maxHeartbeats 1000000 in
theorem progHear (w : World) (eb : Addr) (S : Int) (ad : Option Addr) (cap : Nat) (l : List UInt8) (he : Dp.ErrAt w eb) (hc : Dp.Cutting w (.slice ad l.length cap) l) (hl : l.length ≤ 16777216) :
  Calls Tryz.prog 72 #[.int .i64 S, .slice ad l.length cap] w fun e w' => ∃ vt xs, e = .returned (.agg (Dp.accCells vt (Dp.checked S l).1 (Dp.checked S l).2).toArray) ∧ Dp.Own w' 47 vt xs ∧ Dp.TextsAt w w' xs (Dp.heardTexts S l) ∧ (∀ g, vt.ownBlock = some g → w.heap.size ≤ g) ∧ Dp.Keeps (fun _ => False) w w' := by
 have hmf : ∀ (fn : Fn) (first cap : Array Value) (w : World), (Instr.makeFunc fn first cap).run Tryz.prog w = .ok (.func fn first cap) w := fun _ _ _ _ => rfl
 go_enter_defers Tryz.func72, Tryz.ntmps72
 go_wp2_with (refine Dp.wpList_alloc_row rfl 126 rfl _ zeroAcc ?_)
 intro w1 r1 z1 k1
 go_wp2_with fail
 refine (progOf ad l.length cap _).mono ?_
 rintro e w2 ⟨rfl, r2, z2, k2⟩
 have hp : Dp.PartsAt w1 (w.heap.size + 1) w2 l := ⟨by omega, ⟨_, by rw [← z1]; exact r2, hc.still k1⟩, k2⟩
 have he1 := he.keep k1
 have HR1 := Hid.mk_ r1
 clear r2 r1
 rw [z1]
 go_wp2_with fail
 refine (progFollow w1 (w.heap.size + 1) eb S l w2 he1 hp hl).mono ?_
 intro e w3 h3
 cases hh : Dp.heard S l with
 | none =>
  rw [hh, Dp.after_none] at h3
  obtain ⟨rfl, hk⟩ := h3
  have HC : Hid (Dp.checked S l = (0, 6) ∧ Dp.heardTexts S l = []) := by unfold Hid Dp.checked Dp.heardTexts; rw [hh]; exact ⟨rfl, rfl⟩
  have hr3 := HR1.out.keep hk (fun e => e)
  refine leaves_cons (f := 99) (args := #[.pointer (some ⟨w.heap.size, 0, none⟩)]) (by simp) (by simp [go_sem]) ?_
  refine (hear1_panicking w.heap.size eb [] _ w3 (he1.keep hk) hr3 rfl).mono ?_
  rintro e u' w4 ⟨rfl, rfl, r4, k4⟩
  simp only [Leaves, settle, List.dropWhile_nil]
  refine ⟨_, results_cell_row rfl _ _ w.heap.size 126 _ (0, 0) _ rfl r4 Tryz.underlying126 rfl (by rw [sizeAcc]; rfl), ?_⟩
  rw [HC.out.1, HC.out.2]
  exact ⟨.slice none 0 0, [], rfl, Dp.Own.nil _ _, Dp.TextsAt.nil _ _, fun g hg => by simp [Value.ownBlock] at hg, (k1.trans hk).next k4 (fun i hi e => by omega)⟩
 | some r =>
  rw [hh, Dp.after_some] at h3
  obtain ⟨vt, xs, rfl, ho, ht, hn, hk⟩ := h3
  have HC : Hid (Dp.checked S l = Dp.toldBy (some r) ∧ Dp.heardTexts S l = Dp.believed l r) := by unfold Hid Dp.checked Dp.heardTexts; rw [hh]; exact ⟨rfl, rfl⟩
  have hk2 := k2.size
  have hne : ¬ w.heap.size = w.heap.size + 1 := by omega
  have hr3 := (HR1.out.keep k2 (fun e => e)).keep hk hne
  have HR3 := Hid.mk_ (Dp.row_nil hr3)
  obtain ⟨adt, capt, evt⟩ := ho.isSlice
  subst evt
  have HO := Hid.mk_ ho
  have HT := Hid.mk_ ht
  clear ho ht hr3 hp hh
  go_wp2_with (refine Dp.wpList_store_in rfl 126 _ _ rfl w.heap.size 0 rfl (Dp.accCells (.slice adt xs.length capt) (Dp.toldBy (some r)).1 (Dp.toldBy (some r)).2) rfl 126 [] _ [] HR3.out rfl rfl (by rw [sizeAcc]; rfl) (Dp.accCells_one _ _ _ rfl) ?_)
  intro w4 r4 z4 k4
  have r4' : Dp.Row w4 w.heap.size 126 (Dp.accCells (.slice adt xs.length capt) (Dp.toldBy (some r)).1 (Dp.toldBy (some r)).2) := by simpa using r4
  go_wp2
  refine leaves_cons (f := 99) (args := #[.pointer (some ⟨w.heap.size, 0, none⟩)]) (by simp) (by simp [go_sem]) ?_
  refine (hear1_idle w.heap.size _).mono ?_
  rintro e u' w5 ⟨rfl, rfl, rfl⟩
  simp only [Leaves, settle]
  refine ⟨_, results_cell_row rfl _ _ w.heap.size 126 _ (0, 0) _ rfl r4' Tryz.underlying126 rfl (by rw [sizeAcc]; rfl), ?_⟩
  rw [HC.out.1, HC.out.2]
  have hz3 : Dp.Row w3 w.heap.size 126 (Dp.accCells (.slice none 0 0) 0 0) := by simpa using HR3.out
  have hb : w.heap.size ≤ w2.heap.size := by omega
  exact ⟨_, xs, rfl, HO.out.keep k4 (fun g hg e => by subst e; exact HO.out.ne hz3 (by decide) _ hg rfl), (HT.out.keep k4 (fun g e hg _ => hg.ne hz3 (by decide))).base hb, fun g hg => Nat.le_trans hb (hn g hg), ((k1.trans k2).next hk (fun i hi e => by omega)).next k4 (fun i hi e => by omega)⟩
set_option maxRecDepth 100000 in
set_option maxHeartbeats 1000000 in
theorem progVCheck (w : World) (eb : Addr) (S : Int) (ad : Option Addr) (cap : Nat) (l : List UInt8) (he : Dp.ErrAt w eb) (hc : Dp.Cutting w (.slice ad l.length cap) l) (hl : l.length ≤ 16777216) :
  Calls Tryz.prog 48 #[.int .i64 S, .slice ad l.length cap] w fun e w' => e = .returned (.tuple #[.int .i64 (Dp.checked S l).1, .int .i64 (Dp.checked S l).2]) ∧ Dp.Keeps (fun _ => False) w w' := by
 go_enter Tryz.func48, Tryz.ntmps48
 go_wp2_with fail
 refine (progHear w eb S ad cap l he hc hl).mono ?_
 rintro e w1 ⟨vt, xs, rfl, ho, ht, hn, k1⟩
 obtain ⟨adt, capt, evt⟩ := ho.isSlice
 subst evt
 clear ho ht hn
 go_wp2_with (refine Dp.wpList_alloc_row rfl 126 rfl _ zeroAcc ?_)
 intro w2 r2 z2 k2
 have HR2 := Hid.mk_ (Dp.row_nil r2)
 clear r2
 go_wp2_with (refine Dp.wpList_store_in rfl 126 _ _ rfl w1.heap.size 0 rfl (Dp.accCells (.slice adt xs.length capt) (Dp.checked S l).1 (Dp.checked S l).2) rfl 126 [] _ [] HR2.out rfl rfl (by rw [sizeAcc]; rfl) (Dp.accCells_one _ _ _ rfl) ?_)
 intro w3 r3 z3 k3
 have r3' : Dp.Row w3 w1.heap.size 126 (Dp.accCells (.slice adt xs.length capt) (Dp.checked S l).1 (Dp.checked S l).2) := by simpa using r3
 have c1 : w3.cell? ⟨w1.heap.size, 1, none⟩ = some (.int .i64 (Dp.checked S l).1) := r3'.cell 1
 have c2 : w3.cell? ⟨w1.heap.size, 2, none⟩ = some (.int .i64 (Dp.checked S l).2) := r3'.cell 2
 have HK : Hid (Dp.Keeps (fun _ => False) w w3) := (k1.trans k2).next k3 (fun i hi e => by have := k1.size; omega)
 clear r3 r3' k3 k2 k1 HR2
 generalize hCC : Dp.checked S l = C at *
 have HCC := Hid.mk_ hCC
 clear hCC
 go_wp2
 go_region
 go_wp2
 go_ret2
 exact ⟨by rw [HCC.out]; rfl, HK.out.drew⟩
set_option maxRecDepth 100000 in
set_option maxHeartbeats 1000000 in
theorem progCheck (w : World) (eb : Addr) (S : Int) (ad : Option Addr) (cap : Nat) (l : List UInt8) (he : Dp.ErrAt w eb) (hc : Dp.Cutting w (.slice ad l.length cap) l) (hl : l.length ≤ 16777216) :
  Calls Tryz.prog 21 #[.int .i64 S, .slice ad l.length cap] w fun e w' => e = .returned (.tuple #[.int .i64 (Dp.checked S l).1, .int .i64 (Dp.checked S l).2]) ∧ Dp.Keeps (fun _ => False) w w' := by
 go_enter Tryz.func21, Tryz.ntmps21
 go_wp2_with fail
 refine (progVCheck w eb S ad cap l he hc hl).mono ?_
 rintro e w1 ⟨rfl, k1⟩
 go_wp2
 go_ret2
 exact ⟨rfl, k1⟩
namespace Dp
def besideTo (cells : List Int) (n k : Nat) : List Int := (List.range 8).map fun j => if j < k then digest cells (sib n j) j else 0
theorem besideTo_length (cells : List Int) (n k : Nat) : (besideTo cells n k).length = 8 := by simp [besideTo]
theorem besideTo_zero (cells : List Int) (n : Nat) : besideTo cells n 0 = [0, 0, 0, 0, 0, 0, 0, 0] := by
 simp [besideTo]; rfl
theorem besideTo_set (cells : List Int) (n k : Nat) : (besideTo cells n k).set k (digest cells (sib n k) k) = besideTo cells n (k + 1) := by
 apply List.ext_getElem
 ·simp [besideTo]
 ·intro i h1 h2
  rw [List.getElem_set]
  simp only [besideTo, List.getElem_map, List.getElem_range]
  by_cases e : k = i
  ·subst e; simp
  ·rw [if_neg e]
   by_cases h : i < k
   ·rw [if_pos h, if_pos (by omega)]
   ·rw [if_neg h, if_neg (by omega)]
theorem besideTo_bd (cells : List Int) (n k : Nat) : ∀ x ∈ besideTo cells n k, 0 ≤ x ∧ x < 65536 := by
 intro x hx
 simp only [besideTo, List.mem_map] at hx
 obtain ⟨j, _, rfl⟩ := hx
 split
 ·have := digest_bd cells (sib n j) j; omega
 ·omega
theorem xor_one (a : Nat) (h : a < 256) : Go.bits .xor .u32 (a : Int) 1 = ((if a % 2 = 0 then a + 1 else a - 1 : Nat) : Int) := by
 have : ∀ a : Fin 256, Go.bits .xor .u32 ((a : Nat) : Int) 1 = ((if (a : Nat) % 2 = 0 then (a : Nat) + 1 else (a : Nat) - 1 : Nat) : Int) := by decide +kernel
 exact this ⟨a, h⟩
theorem level_sib (cells : List Int) (n k : Nat) (hn : n < 256) (hk : k < 8) : (if n / 2 ^ k % 2 = 0 then n / 2 ^ k + 1 else n / 2 ^ k - 1) < 256 / 2 ^ k ∧ (level cells k).getD (if n / 2 ^ k % 2 = 0 then n / 2 ^ k + 1 else n / 2 ^ k - 1) 0 = digest cells (sib n k) k := by
 have hlt : (if n / 2 ^ k % 2 = 0 then n / 2 ^ k + 1 else n / 2 ^ k - 1) < 256 / 2 ^ k := by
  rcases (by omega : k = 0 ∨ k = 1 ∨ k = 2 ∨ k = 3 ∨ k = 4 ∨ k = 5 ∨ k = 6 ∨ k = 7) with rfl | rfl | rfl | rfl | rfl | rfl | rfl | rfl <;> simp only [Nat.reducePow, Nat.reduceDiv] <;> split <;> omega
 refine ⟨hlt, ?_⟩
 rw [level_getD cells k _ hlt]
 congr 1
 unfold sib
 by_cases h : n / 2 ^ k % 2 = 0
 ·rw [if_pos h, if_pos h, Nat.add_mul, Nat.one_mul]
 ·rw [if_neg h, if_neg h, Nat.sub_mul, Nat.one_mul]
end Dp
set_option maxRecDepth 100000 in
set_option maxHeartbeats 1000000 in
theorem progCProof (w : World) (b o : Nat) (ty : TypeId) (pre post : List Value) (vs : Value) (cells : List Int) (n : Nat) (hl : cells.length = 256) (hr : Dp.Row w b ty (pre ++ Dp.memCells vs cells ++ post)) (ho : pre.length = o) (hw : ∀ x ∈ cells, Dp.isWord x) (hn : n < 256) :
  Calls Tryz.prog 176 #[.pointer (some ⟨b, o, none⟩), .int .u32 n] w fun e w' => e = .returned (.agg (Dp.proofCells (cells.getD n 0) (Dp.besideTo cells n 8)).toArray) ∧ Dp.Keeps (fun _ => False) w w' := by
 go_enter Tryz.func176, Tryz.ntmps176
 go_wp2_with (refine Dp.wpList_alloc_row rfl 219 rfl _ zeroProof ?_)
 intro w1 r1 z1 k1
 have hr1 := hr.keep k1 (fun e => e)
 have c := Dp.memCells_word hr1 ho n (by omega)
 have hx : Dp.isWord (cells.getD n 0) := by
  rw [List.getD_eq_getElem?_getD, List.getElem?_eq_getElem (by omega)]; exact hw _ (List.getElem_mem _)
 have HX := Hid.mk_ hx
 have HO0 := Hid.mk_ (Dp.besideTo_zero cells n)
 generalize hCX : cells.getD n 0 = cx at *
 have HCX := Hid.mk_ hCX
 clear hCX
 have HR1 := Hid.mk_ r1
 have HH1 := Hid.mk_ hr1
 clear hr r1 hr1 hx
 go_wp2_with (refine Dp.wpList_alloc_row rfl 219 rfl _ zeroProof ?_)
 intro w2 r2 z2 k2
 have HR2 : Hid (Dp.Row w2 (w.heap.size + 1) 219 ([] ++ Dp.proofCells 0 [0, 0, 0, 0, 0, 0, 0, 0] ++ [])) := Dp.row_nil r2
 clear r2
 go_wp2_with (refine Dp.wpList_store_in rfl 219 _ _ rfl (w.heap.size + 1) 0 rfl (Dp.proofCells cx [0, 0, 0, 0, 0, 0, 0, 0]) rfl 219 [] (Dp.proofCells 0 [0, 0, 0, 0, 0, 0, 0, 0]) [] HR2.out rfl rfl (by rw [sizeProof]; rfl) (Dp.proofCells_one _ _) ?_)
 intro w3 r3 z3 k3
 have HR3 : Hid (Dp.Row w3 (w.heap.size + 1) 219 (Dp.proofCells cx (Dp.besideTo cells n 0))) := by unfold Hid; rw [HO0.out]; simpa using r3
 have HZ3 := Hid.mk_ ((HR1.out.keep k2 (fun e => e)).keep k3 (fun e => by omega))
 have k23 : Dp.Keeps (fun _ => False) w1 w3 := (k2.next k3 (fun i hi e => by omega))
 have HK3 : Hid (Dp.Keeps (fun _ => False) w w3) := k1.trans k23
 have HH3 := Hid.mk_ (HH1.out.keep k23 (fun e => e))
 clear r3 k1 k2 k3 k23 z1 z2 z3 HR1 HR2 HH1 c HO0
 go_wp2_with fail
 refine (progDigests w3 b o ty pre post vs cells hl HH3.out ho hw).mono ?_
 rintro e w4 ⟨rfl, r4, k4⟩
 have HL4 := Hid.mk_ r4
 have HR4 := Hid.mk_ (HR3.out.keep k4 (fun e => e))
 have HZ4 := Hid.mk_ (HZ3.out.keep k4 (fun e => e))
 have HK4 := Hid.mk_ (HK3.out.trans k4)
 clear r4 k4 HR3 HZ3 HK3 HH3
 go_wp2
 go_loopw [1, 6, 7, 17] (fun a lv _ i wr => ∃ k g : Nat, k ≤ 8 ∧ i = .int .i64 k ∧ a = .int .u32 ((n / 2 ^ k : Nat) : Int) ∧ lv = .slice (some ⟨g, 0, none⟩) (256 / 2 ^ k) (256 / 2 ^ k) ∧ Dp.Row wr g 3 (Dp.regCells (Dp.level cells k)) ∧ Dp.Row wr (w.heap.size + 1) 219 (Dp.proofCells cx (Dp.besideTo cells n k)) ∧ Dp.Row wr w.heap.size 219 (Dp.proofCells 0 [0, 0, 0, 0, 0, 0, 0, 0]) ∧ Dp.Keeps (fun _ => False) w wr) (fun _ _ _ i _ => 8 - (intOf i).toNat)
 case atStart => exact ⟨0, w3.heap.size, Nat.zero_le _, rfl, by simp, rfl, HL4.out, HR4.out, HZ4.out, HK4.out⟩
 case round =>
  obtain ⟨k, g, hk, rfl, rfl, rfl, rl, rp, rz, kr⟩ := hrel
  clear HL4 HR4 HZ4 HK4
  by_cases hk8 : k < 8
  ·obtain ⟨h1, h2, h3⟩ := Dp.pow_half k hk8
   have hlev : (Dp.level cells k).length = 256 / 2 ^ (k + 1) + 256 / 2 ^ (k + 1) := by rw [Dp.level_length, h1]
   have HJ := Hid.mk_ (Dp.join_level cells k hk8)
   have HB := Hid.mk_ (Dp.level_bd cells k)
   obtain ⟨hs1, hs2⟩ := Dp.level_sib cells n k hn hk8
   have hlenk := Dp.level_length cells k
   have hcs := Dp.regCells_at rl _ (by rw [hlenk]; exact hs1)
   rw [hs2] at hcs
   have hxo := Dp.xor_one (n / 2 ^ k) (Nat.lt_of_le_of_lt (Nat.div_le_self _ _) hn)
   have HS := Hid.mk_ (Dp.besideTo_set cells n k)
   have HBD := Hid.mk_ (Dp.digest_bd cells (Dp.sib n k) k)
   have HDD : Hid (n / 2 ^ (k + 1) = n / 2 ^ k / 2) := by unfold Hid; rw [Nat.pow_succ, Nat.div_div_eq_div_mul]
   have hnk : n / 2 ^ k < 256 := Nat.lt_of_le_of_lt (Nat.div_le_self _ _) hn
   rw [h1] at hs1 ⊢
   generalize hN : 256 / 2 ^ (k + 1) = N at *
   have HN := Hid.mk_ hN
   generalize n / 2 ^ k = a at *
   generalize (if a % 2 = 0 then a + 1 else a - 1) = x at *
   generalize Dp.digest cells (Dp.sib n k) k = D at *
   have cp : wr.cell? ⟨w.heap.size + 1, 1 + k, none⟩ = (Dp.proofCells cx (Dp.besideTo cells n k))[1 + k]? := rp.cell _
   have cp' : wr.cell? ⟨w.heap.size + 1, 1 + k, none⟩ = some ((Dp.proofCells cx (Dp.besideTo cells n k)).getD (1 + k) undef) := by
    rw [cp, List.getD_eq_getElem?_getD, List.getElem?_eq_getElem (by rw [Dp.proofCells_length, Dp.besideTo_length]; omega)]; rfl
   have fp := rp.frozen (1 + k)
   have hp1 := rp.lt
   have hgne : ¬ g = w.heap.size + 1 := rl.ne rp (by decide)
   have HRP : Hid (Dp.Row (wr.setCell ⟨w.heap.size + 1, 1 + k, none⟩ (.int .i64 D)) (w.heap.size + 1) 219 (Dp.proofCells cx (Dp.besideTo cells n (k + 1)))) := by
    have h := rp.set (1 + k) (.int .i64 D)
    rw [Dp.proofCells_set, HS.out] at h
    exact h
   have HRL : Hid (Dp.Row (wr.setCell ⟨w.heap.size + 1, 1 + k, none⟩ (.int .i64 D)) g 3 (Dp.regCells (Dp.level cells k))) := rl.setOther _ _ hgne
   have HRZ : Hid (Dp.Row (wr.setCell ⟨w.heap.size + 1, 1 + k, none⟩ (.int .i64 D)) w.heap.size 219 (Dp.proofCells 0 [0, 0, 0, 0, 0, 0, 0, 0])) := rz.setOther _ _ (show w.heap.size ≠ w.heap.size + 1 by omega)
   have HKR : Hid (Dp.Keeps (fun _ => False) w (wr.setCell ⟨w.heap.size + 1, 1 + k, none⟩ (.int .i64 D))) := kr.setCell (p := ⟨w.heap.size + 1, 1 + k, none⟩) (.inl (show w.heap.size ≤ w.heap.size + 1 by omega)) _
   clear cp rp rl rz kr hlenk hN h1 hs2
   generalize (Dp.proofCells cx (Dp.besideTo cells n k)).getD (1 + k) undef = pv at *
   go_wp2_with fail
   refine (progJoined _ g (Dp.level cells k) N hlev ⟨h2, h3⟩ HRL.out HB.out).mono ?_
   rintro e w6 ⟨rfl, r6, k6⟩
   rw [HJ.out] at r6
   have HR6 := Hid.mk_ r6
   have HP6 := Hid.mk_ (HRP.out.keep k6 (fun e => e))
   have HZ6 := Hid.mk_ (HRZ.out.keep k6 (fun e => e))
   have HK6 := Hid.mk_ (HKR.out.trans k6)
   clear r6 k6 HRP HRL HRZ HKR hcs cp' fp
   go_wp2
   go_roundw
   case rel =>
    refine ⟨k + 1, _, by omega, by go_num, ?_, ?_, HR6.out, HP6.out, HZ6.out, HK6.out⟩
    ·rw [HDD.out]; simp
    ·rw [HN.out]; simp
   case measure => simp [intOf]; omega
  ·obtain rfl : k = 8 := by omega
   have HRP : Hid (Dp.Row wr (w.heap.size + 1) 219 ([] ++ Dp.proofCells cx (Dp.besideTo cells n 8) ++ [])) := Dp.row_nil rp
   have HRZ : Hid (Dp.Row wr w.heap.size 219 ([] ++ Dp.proofCells 0 [0, 0, 0, 0, 0, 0, 0, 0] ++ [])) := Dp.row_nil rz
   have HM : Hid ((Dp.proofCells cx (Dp.besideTo cells n 8)).length = 9) := by unfold Hid; rw [Dp.proofCells_length, Dp.besideTo_length]
   clear rl rp rz
   go_wp2_with (first | (refine Dp.wpList_store_in rfl 219 _ _ rfl w.heap.size 0 rfl (Dp.proofCells cx (Dp.besideTo cells n 8)) rfl 219 [] (Dp.proofCells 0 [0, 0, 0, 0, 0, 0, 0, 0]) [] HRZ.out rfl (HM.out.trans rfl) (by rw [sizeProof, HM.out]) (Dp.proofCells_one _ _) ?_) | (refine Dp.wpList_load_in rfl 219 _ rfl (w.heap.size + 1) 0 rfl 219 [] _ [] HRP.out rfl _ Tryz.underlying219 rfl (by rw [sizeProof, HM.out]) ?_; intro _))
   intro w8 r8 z8 k8
   have r8' : Dp.Row w8 w.heap.size 219 (Dp.proofCells cx (Dp.besideTo cells n 8)) := by simpa using r8
   go_wp2
   refine bodyPost_ret (v := .agg (Dp.proofCells cx (Dp.besideTo cells n 8)).toArray) (results_cell_row rfl _ _ w.heap.size 219 _ (0, 0) _ rfl r8' Tryz.underlying219 rfl (by rw [sizeProof, List.size_toArray, HM.out])) rfl ?_
   rw [HCX.out]
   exact ⟨rfl, kr.next k8 (fun i hi e => by omega)⟩
namespace Dp
def pbTo (word : Int) (os : List Int) : Nat → List UInt8
 | 0 => four word
 | k + 1 => pbTo word os k ++ two (os.getD k 0)
theorem pbTo_length (word : Int) (os : List Int) (k : Nat) : (pbTo word os k).length = 4 + 2 * k := by
 induction k with
 | zero => rfl
 | succ k ih => unfold pbTo; rw [List.length_append, ih, two_length]; omega
theorem pbTo_proof (cells : List Int) (n k : Nat) (hk : k ≤ 8) : pbTo (cells.getD n 0) (besideTo cells n 8) k = proofTo cells n k := by
 induction k with
 | zero => rfl
 | succ k ih =>
  unfold pbTo proofTo
  rw [ih (by omega)]
  congr 2
  unfold besideTo
  rw [List.getD_eq_getElem?_getD, List.getElem?_map, List.getElem?_range (by omega)]
  simp; omega
end Dp
set_option maxRecDepth 100000 in
set_option maxHeartbeats 1000000 in
theorem progPBytes (word : Int) (os : List Int) (w : World) (hw : Dp.isWord word) (hol : os.length = 8) (hob : ∀ x ∈ os, 0 ≤ x ∧ x < 65536) :
  Calls Tryz.prog 177 #[.agg (Dp.proofCells word os).toArray] w fun e w' => (∃ v, e = .returned v ∧ Dp.Own w' 5 v (Dp.vals (Dp.pbTo word os 8)) ∧ ∀ g, v.ownBlock = some g → w.heap.size ≤ g) ∧ Dp.Keeps (fun _ => False) w w' := by
 go_enter Tryz.func177, Tryz.ntmps177
 go_wp2_with (refine Dp.wpList_box_row rfl 219 _ rfl (Dp.proofCells word os) rfl ?_)
 intro w1 r1 z1 k1
 have c0 : w1.cell? ⟨w.heap.size, 0, none⟩ = some (.int .u32 word) := r1.cell 0
 have HR1 := Hid.mk_ r1
 clear r1
 go_wp2_with fail
 refine (progWord word _ hw).mono ?_
 rintro e w2 ⟨rfl, r2, z2, k2⟩
 have HP2 : Hid (Dp.Row w2 w.heap.size 219 ([.int .u32 word] ++ Dp.intCells os ++ [])) := by
  unfold Hid; rw [List.append_nil]; exact HR1.out.keep k2 (fun e => e)
 have HO : Hid ((Dp.intCells os).length = 8) := by unfold Hid Dp.intCells; rw [List.length_map]; exact hol
 have HOW : Hid (Dp.Own w2 5 (.slice (some ⟨w1.heap.size, 0, none⟩) 4 4) (Dp.vals (Dp.pbTo word os 0))) :=
  .inr ⟨w1.heap.size, [], rfl, by rw [List.append_nil]; exact r2, by simp [Dp.vals, Dp.pbTo, Dp.four_length, maxLen]⟩
 have HZ1 : Hid (w.heap.size ≤ w1.heap.size) := k1.size
 have HK2 := Hid.mk_ (k1.trans k2)
 clear r2 k1 k2 HR1 c0 z2 z1
 go_wp2_with (refine Dp.wpList_load_in rfl 72 _ rfl w.heap.size 1 rfl 219 _ _ _ HP2.out rfl _ Tryz.underlying72 rfl (by rw [sizeOthers, HO.out]) ?_)
 intro _
 go_wp2
 go_loopw [3, 5, 11] (fun t _ i wr => ∃ k : Nat, k ≤ 8 ∧ i = .int .i64 k ∧ Dp.Own wr 5 t (Dp.vals (Dp.pbTo word os k)) ∧ (∀ g, t.ownBlock = some g → w.heap.size ≤ g) ∧ Dp.Keeps (fun _ => False) w wr) (fun _ _ i _ => 8 - (intOf i).toNat)
 case atStart =>
  refine ⟨0, Nat.zero_le _, rfl, HOW.out, fun g hg => ?_, HK2.out⟩
  have e : w1.heap.size = g := by simpa [Value.ownBlock] using hg
  rw [← e]; exact HZ1.out
 case round =>
  obtain ⟨k, hk, rfl, ow, hf, kr⟩ := hrel
  clear HOW HK2 HP2 HZ1
  by_cases hlt : k < 8
  ·have hx : (Dp.intCells os).toArray[k]? = some (.int .i64 (os.getD k 0)) := by
    simp [Dp.intCells, hol, hlt]
   have hidx : ∀ wx, (Instr.index 72 (.agg (Dp.intCells os).toArray) (.int .i64 (k : Int))).run Tryz.prog wx = .ok (.int .i64 (os.getD k 0)) wx := fun wx => Dp.run_index_one wx 72 3 8 _ k _ (by rfl) (by rfl) (by rfl) hlt hx
   have hb := Dp.getD_word hob k
   have HE : Hid (Dp.pbTo word os (k + 1) = Dp.pbTo word os k ++ Dp.two (os.getD k 0)) := rfl
   have HLN := Hid.mk_ (Dp.pbTo_length word os k)
   have HF := Hid.mk_ hf
   have HT2 := Hid.mk_ (Dp.two_length (os.getD k 0))
   clear hx hf
   generalize os.getD k 0 = O at *
   generalize Dp.pbTo word os k = X at *
   go_wp2_with fail
   refine (progTwo O _ hb).mono ?_
   rintro e w4 ⟨rfl, r4, z4, k4⟩
   have oa := ow.keep k4 (fun _ _ e => e)
   have NW := Hid.mk_ (Dp.vals_news r4)
   go_wp2_with (at_builtin; refine Dp.wpList_append_Own rfl _ _ 47 rfl 5 (.int .u8 0) 1 Tryz.underlying47 infoU8 rfl _ (Dp.vals X) rfl oa ⟨wr.heap.size, 0, none⟩ 2 2 (Dp.vals (Dp.two O)) rfl (by rw [Dp.vals_length, HT2.out]) NW.out (Dp.vals_one _) (by omega) (by rw [Dp.vals_length, HLN.out]; unfold maxLen; omega) (by rw [Dp.vals_length, HLN.out]; omega) ?_)
   intro v5 w5 o5 k5 s5
   rw [Dp.vals_append, ← HE.out] at o5
   have kr5 := (kr.trans k4).next k5 (fun i hi e => by have := HF.out i e; omega)
   have HF5 : Hid (∀ g, v5.ownBlock = some g → w.heap.size ≤ g) := fun g hg => by
    have hsz := (kr.trans k4).size
    rcases s5.out with hh | hh
    ·exact HF.out g (hh.1 ▸ hg)
    ·rw [hh.1] at hg; simp at hg; omega
   have HO5 := Hid.mk_ o5
   clear oa r4 z4 k4 k5 s5 o5 NW ow kr hidx
   go_wp2
   go_roundw
   case rel => exact ⟨k + 1, by omega, by go_num, HO5.out, HF5.out, kr5⟩
   case measure => simp [intOf]; omega
  ·obtain rfl : k = 8 := by omega
   go_wp2
   go_ret
   exact ⟨⟨_, rfl, ow, hf⟩, kr⟩
namespace Dp
structure RecInv (G : Nat → Prop) (wb : World) (p q L : Nat) (w : World) (m : List Int × List (List UInt8) × List UInt8) : Prop where
 len : m.1.length = 256
 words : ∀ x ∈ m.1, isWord x
 short : m.2.2.length ≤ L
 srcl : ∀ l ∈ m.2.1, l.length ≤ 255
 ne : p ≠ q
 plt : p < wb.heap.size
 qlt : q < wb.heap.size
 far : ∀ g, G g → g < wb.heap.size ∧ g ≠ q ∧ g ≠ p
 frame : Keeps (fun k => k = q ∨ k = p) wb w
 row : ∃ vs vsh, Row w q 157 (memCells vs m.1 ++ [vsh]) ∧ PartsIn G w vs m.2.1 ∧ Own w 5 vsh (vals m.2.2) ∧ ∀ g, vsh.ownBlock = some g → wb.heap.size ≤ g
def RecF (q : Nat) (w : World) (k : Nat) : Prop := k = q ∨ ∃ cs vsh, Row w q 157 (cs ++ [vsh]) ∧ vsh.ownBlock = some k
theorem last_inj {α : Type} {a b : List α} {x y : α} (h : a ++ [x] = b ++ [y]) : x = y := by
 have := (List.append_inj' h rfl).2
 simpa using this
theorem RecInv.keep {G : Nat → Prop} {wb : World} {p q L : Nat} {w w' : World} {m : List Int × List (List UInt8) × List UInt8} (h : RecInv G wb p q L w m) (k : Keeps (fun i => i = p) w w') : RecInv G wb p q L w' m ∧ ∀ i, RecF q w' i → RecF q w i := by
 obtain ⟨vs, vsh, hr, hp, ho, hn⟩ := h.row
 have hpl := h.plt
 have hsz := h.frame.size
 have hr' := hr.keep k h.ne.symm
 refine ⟨⟨h.len, h.words, h.short, h.srcl, h.ne, h.plt, h.qlt, h.far, h.frame.next k (fun i _ e => .inr e), vs, vsh, hr', hp.keep k (fun g hg => ?_), ho.keep k (fun g hg e => ?_), hn⟩, ?_⟩
 ·have := h.far g hg; exact ⟨by omega, this.2.2⟩
 ·have := hn g hg; omega
 ·rintro i (rfl | ⟨cs, v, hr2, hv⟩)
  ·exact .inl rfl
  ·have := last_inj (hr2.inj hr')
   subst this
   exact .inr ⟨_, _, hr, hv⟩
theorem RecInv.foot {G : Nat → Prop} {wb : World} {p q L : Nat} {w : World} {m : List Int × List (List UInt8) × List UInt8} (h : RecInv G wb p q L w m) {i : Nat} (hi : RecF q w i) : i < w.heap.size ∧ i ≠ p := by
 obtain ⟨vs, vsh, hr, hp, ho, hn⟩ := h.row
 have hpl := h.plt
 rcases hi with rfl | ⟨cs, v, hr2, hv⟩
 ·exact ⟨hr.lt, h.ne.symm⟩
 ·have := last_inj (hr2.inj hr)
  subst this
  have := hn i hv
  exact ⟨ho.lt i hv, by omega⟩
theorem RecInv.le {G : Nat → Prop} {wb : World} {p q L L' : Nat} {w : World} {m : List Int × List (List UInt8) × List UInt8} (h : RecInv G wb p q L w m) (hL : L ≤ L') : RecInv G wb p q L' w m :=
 ⟨h.len, h.words, Nat.le_trans h.short hL, h.srcl, h.ne, h.plt, h.qlt, h.far, h.frame, h.row⟩
end Dp
set_option maxRecDepth 100000 in
set_option maxHeartbeats 1000000 in
theorem progProve (G : Nat → Prop) (wb : World) (p q L : Nat) (w : World) (m : List Int × List (List UInt8) × List UInt8) (n : Int) (hn : Dp.isWord n) (h : Dp.RecInv G wb p q L w m) (hL : L ≤ 1000000) :
  Calls Tryz.prog 175 #[.pointer (some ⟨q, 0, none⟩), .int .u32 n] w fun e w' => e = .returned (.tuple #[]) ∧ Dp.RecInv G wb p q (L + 300) w' (m.1, m.2.1, if n ≥ 256 then m.2.2 else m.2.2 ++ Dp.proof m.1 n.toNat) ∧ Dp.Keeps (Dp.RecF q w) w w' := by
 have hn0 := hn
 unfold Dp.isWord at hn0
 by_cases hge : n ≥ 256
 ·have HC := Hid.mk_ (progReach (.pointer (some ⟨q, 0, none⟩)) n w)
  rw [if_pos hge] at HC ⊢
  go_enter Tryz.func175, Tryz.ntmps175
  go_wp2_with (refine HC.out.mono ?_; rintro e w' ⟨rfl, rfl⟩)
  go_end0
  exact ⟨rfl, h.le (by omega), Dp.Keeps.refl _ _⟩
 ·have HC := Hid.mk_ (progReach (.pointer (some ⟨q, 0, none⟩)) n w)
  rw [if_neg hge] at HC ⊢
  obtain ⟨vs, vsh, hr, hpi, hown, hnew⟩ := h.row
  obtain ⟨k, rfl⟩ : ∃ k : Nat, n = (k : Int) := ⟨n.toNat, by omega⟩
  have hk : k < 256 := by omega
  obtain ⟨shad, shcap, esh⟩ := hown.isSlice
  subst esh
  have hS0 : Dp.Keeps (fun i => (Value.slice shad (Dp.vals m.2.2).length shcap).ownBlock = some i) w w.drew := (Dp.Keeps.refl _ _).drew
  have hqs : ∀ g, (Value.slice shad (Dp.vals m.2.2).length shcap).ownBlock = some g → ¬ g = q := hown.ne hr (by decide)
  have HRX : Hid (∀ wx, Dp.Keeps (fun i => (Value.slice shad (Dp.vals m.2.2).length shcap).ownBlock = some i) w wx → Dp.Row wx q 157 ([] ++ Dp.memCells vs m.1 ++ [.slice shad (Dp.vals m.2.2).length shcap])) := fun wx kx => hr.keep kx (fun e => hqs q e rfl)
  have c257 : ∀ wx, Dp.Keeps (fun i => (Value.slice shad (Dp.vals m.2.2).length shcap).ownBlock = some i) w wx → wx.cell? ⟨q, 257, none⟩ = some (.slice shad (Dp.vals m.2.2).length shcap) := fun wx kx => by
   rw [(HRX.out wx kx).cell, List.nil_append, List.getElem?_append_right (by simp [Dp.memCells, Dp.wordCells, h.len])]
   simp [Dp.memCells, Dp.wordCells, h.len]
  obtain ⟨cx, hcx⟩ : ∃ cx, m.1.getD k 0 = cx := ⟨_, rfl⟩
  obtain ⟨os, hos⟩ : ∃ os, Dp.besideTo m.1 k 8 = os := ⟨_, rfl⟩
  have HPC : Hid (∀ wx, Dp.Keeps (fun i => (Value.slice shad (Dp.vals m.2.2).length shcap).ownBlock = some i) w wx → Calls Tryz.prog 176 #[.pointer (some ⟨q, 0, none⟩), .int .u32 k] wx fun e w' => e = .returned (.agg (Dp.proofCells cx os).toArray) ∧ Dp.Keeps (fun _ => False) wx w') := by
   intro wx kx
   rw [← hcx, ← hos]
   exact progCProof wx q 0 157 [] [.slice shad (Dp.vals m.2.2).length shcap] vs m.1 k h.len (HRX.out _ kx) rfl h.words hk
  have HPB : Hid (∀ wx, Calls Tryz.prog 177 #[.agg (Dp.proofCells cx os).toArray] wx fun e w' => (∃ v, e = .returned v ∧ Dp.Own w' 5 v (Dp.vals (Dp.proof m.1 k)) ∧ ∀ g, v.ownBlock = some g → wx.heap.size ≤ g) ∧ Dp.Keeps (fun _ => False) wx w') := by
   intro wx
   have hb := progPBytes (m.1.getD k 0) (Dp.besideTo m.1 k 8) wx (by rw [List.getD_eq_getElem?_getD, List.getElem?_eq_getElem (by have := h.len; omega)]; exact h.words _ (List.getElem_mem _)) (Dp.besideTo_length _ _ _) (Dp.besideTo_bd _ _ _)
   rw [Dp.pbTo_proof _ _ _ (Nat.le_refl _), hcx, hos] at hb
   exact hb
  clear hcx hos
  have HSH := Hid.mk_ h.short
  have HPL := Hid.mk_ (Dp.proof_length m.1 k)
  have HOWN : Hid (Dp.Own w 5 (.slice shad (Dp.vals m.2.2).length shcap) (Dp.vals m.2.2)) := hown
  generalize hPF : Dp.proof m.1 k = PF at *
  have HPF := Hid.mk_ hPF
  clear hPF
  go_enter Tryz.func175, Tryz.ntmps175
  go_wp2_with (refine HC.out.mono ?_; rintro e w' ⟨rfl, hww⟩; subst w')
  refine Dp.wp_region_L (fun wx => Dp.Keeps (fun i => (Value.slice shad (Dp.vals m.2.2).length shcap).ownBlock = some i) w wx) 12 mixedP ?_
  refine' Dp.tj 0 hS0 ?_
  simp only [Act.put, Dp.tks]
  refine' Dp.tj 1 hS0 ?_
  simp only [Act.put, Dp.tks]
  refine' Dp.tj 2 hS0 ?_
  simp only [Act.put, Dp.tks]
  refine' Dp.tj 3 hS0 ?_
  simp only [Act.put, Dp.tks]
  refine' Dp.tj 4 hS0 ?_
  simp only [Act.put, Dp.tks]
  refine' Dp.tj 5 hS0 ?_
  simp only [Act.put, Dp.tks]
  refine' Dp.tj 6 hS0 ?_
  simp only [Act.put, Dp.tks]
  refine' Dp.tj 7 hS0 ?_
  simp only [Act.put, Dp.tks]
  refine' Dp.tj 8 hS0 ?_
  simp only [Act.put, Dp.tks]
  refine Dp.wpAnyL_one 9 rfl (by kernel_rfl) (by rfl) (fun K hK => ?_)
  go_simp
  refine (HPC.out _ hS0).mono ?_
  rintro e w2 ⟨rfl, k2⟩
  have hS2 := hS0.next k2 (fun _ _ e => e.elim)
  refine hK _ _ ⟨fun _ => hS2, ?_⟩
  clear hK K
  refine Dp.wpAnyL_one 10 rfl (by kernel_rfl) (by rfl) (fun K hK => ?_)
  go_simp
  refine (HPB.out _).mono ?_
  rintro e w3 ⟨⟨vb, rfl, ob, fb⟩, k3⟩
  have hS3 := hS2.next k3 (fun _ _ e => e.elim)
  refine hK _ _ ⟨fun _ => hS3, ?_⟩
  clear hK K
  have HO3 := Hid.mk_ (HOWN.out.keep ((((Dp.Keeps.refl (fun _ => False) w).drew).trans k2).trans k3) (fun _ _ e => e))
  have HRB : Hid (∃ g tail, vb = .slice (some ⟨g, 0, none⟩) 20 (20 + tail.length) ∧ Dp.Row w3 g 5 (Dp.vals PF ++ tail)) := by
   rcases ob with ⟨_, e⟩ | ⟨g, tail, e, hr', _⟩
   ·have h0 : (Dp.vals PF).length = 0 := by rw [e]; rfl
    rw [Dp.vals_length, HPL.out] at h0; omega
   ·rw [Dp.vals_length, HPL.out] at e
    exact ⟨g, tail, e, hr'⟩
  obtain ⟨gb, tl, evb, hrb⟩ := HRB.out
  subst evb
  clear HRB ob
  have hnews : ∀ j u, (Dp.vals PF)[j]? = some u → w3.cell? ((⟨gb, 0, none⟩ : Addr).add j) = some u := fun j u hj => by
   have hadd : (⟨gb, 0, none⟩ : Addr).add j = ⟨gb, j, none⟩ := by unfold Addr.add; split <;> simp_all
   rw [hadd, hrb.cell, List.getElem?_append_left (List.getElem?_eq_some_iff.1 hj).1]; exact hj
  refine Dp.wpAnyL_one 11 rfl (by kernel_rfl) (by rfl) (fun K hK => ?_)
  refine Dp.wp_append_Own _ _ 47 rfl 5 (.int .u8 0) 1 Tryz.underlying47 infoU8 rfl (.slice shad (Dp.vals m.2.2).length shcap) (Dp.vals m.2.2) rfl HO3.out ⟨gb, 0, none⟩ 20 _ (Dp.vals PF) rfl (by rw [Dp.vals_length, HPL.out]) hnews (Dp.vals_one _) (by omega) (by have := HSH.out; rw [Dp.vals_length]; unfold maxLen; omega) (by have := HSH.out; rw [Dp.vals_length]; omega) ?_
  intro v4 w4 o4 k4 s4
  rw [Dp.vals_append] at o4
  have hS4 := hS3.trans k4
  refine hK _ _ ⟨fun _ => hS4, ?_⟩
  clear hK K
  simp only [Act.put, Dp.tks]
  refine Dp.wpAnyL_rest (by kernel_rfl) ?_
  refine Dp.wpAny_tail 12 rfl (by kernel_rfl) ?_
  simp only [List.drop_succ_cons, List.drop_zero]
  obtain ⟨ad4, cap4, e4⟩ := o4.isSlice
  subst e4
  have hr4 : Dp.Row w4 q 157 (Dp.memCells vs m.1 ++ [.slice shad (Dp.vals m.2.2).length shcap]) := HRX.out _ hS4
  have c4 := c257 _ hS4
  have f4 := hr4.frozen 257
  generalize (Dp.vals (m.2.2 ++ PF)).length = N4 at *
  have hle : (Dp.memCells vs m.1).length = 257 := by simp [Dp.memCells, Dp.wordCells, h.len]
  have HR5 : Hid (Dp.Row (w4.setCell ⟨q, 257, none⟩ (.slice ad4 N4 cap4)) q 157 (Dp.memCells vs m.1 ++ [.slice ad4 N4 cap4])) := by
   have h5 := hr4.set 257 (.slice ad4 N4 cap4)
   rw [List.set_append_right _ _ (by omega), hle] at h5
   exact h5
  have hqn : ∀ g, (Value.slice ad4 N4 cap4).ownBlock = some g → ¬ g = q := o4.ne hr4 (by decide)
  have kset : Dp.Keeps (fun i => i = q) w4 (w4.setCell ⟨q, 257, none⟩ (.slice ad4 N4 cap4)) := Dp.Keeps.setCell (S := fun i => i = q) (p := ⟨q, 257, none⟩) (Dp.Keeps.refl _ _) (.inr rfl) _
  have HO5 : Hid (Dp.Own (w4.setCell ⟨q, 257, none⟩ (.slice ad4 N4 cap4)) 5 (.slice ad4 N4 cap4) (Dp.vals (m.2.2 ++ PF))) := o4.keep kset hqn
  have HK5 : Hid (Dp.Keeps (fun i => i = q ∨ (Value.slice shad (Dp.vals m.2.2).length shcap).ownBlock = some i) w (w4.setCell ⟨q, 257, none⟩ (.slice ad4 N4 cap4))) :=
   (hS4.mono (fun _ _ e => .inr e)).next kset (fun _ _ e => .inl e)
  have HNW : Hid (∀ g, (Value.slice ad4 N4 cap4).ownBlock = some g → wb.heap.size ≤ g) := fun g hg => by
   rcases s4.out with hh | hh
   ·exact hnew g (hh.1 ▸ hg)
   ·rw [hh.1] at hg
    have e : w3.heap.size = g := by simpa using hg
    have := h.frame.size
    have := hS3.size
    omega
  have HPI := Hid.mk_ hpi
  have HHR := Hid.mk_ hr
  have HNE := Hid.mk_ hnew
  clear hr4 kset hqn o4 k4 s4 hS4 hS3 hS2 hS0 k2 k3 hrb hnews hpi hr hnew hle HRX HPC HPB HO3 c257 hown HOWN fb
  go_wp2
  go_end0
  rw [Int.toNat_natCast, HPF.out]
  refine ⟨rfl, ⟨h.len, h.words, ?_, h.srcl, h.ne, h.plt, h.qlt, h.far, ?_, vs, .slice ad4 N4 cap4, HR5.out, ?_, HO5.out, HNW.out⟩, ?_⟩
  ·have := HSH.out; simp only [List.length_append, HPL.out]; omega
  ·refine h.frame.next HK5.out (fun i hi e => ?_)
   rcases e with e | e
   ·exact .inl e
   ·have := HNE.out i e; omega
  ·refine HPI.out.keep HK5.out (fun g hg => ?_)
   have h1 := h.far g hg
   have h2 := h.frame.size
   refine ⟨by omega, fun e => ?_⟩
   rcases e with e | e
   ·exact h1.2.1 e
   ·have := HNE.out g e; omega
  ·refine HK5.out.mono (fun i _ e => ?_)
   rcases e with e | e
   ·exact .inl e
   ·exact .inr ⟨_, _, HHR.out, e⟩
end Go.Proofs.YtdipojfngdceoaaGreatDoor
