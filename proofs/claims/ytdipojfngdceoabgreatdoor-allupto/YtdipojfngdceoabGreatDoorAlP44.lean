/- Steps on the way: ProgAnswer. -/
import Derived.Test.YtdipojfngdceoabGreatDoorAlP20
import Derived.Test.YtdipojfngdceoabGreatDoorAlP21
import Derived.Test.YtdipojfngdceoabGreatDoorAlP35
import Derived.Test.YtdipojfngdceoabGreatDoorAlP41
namespace Go.Proofs.YtdipojfngdceoabGreatDoor
open Go.RowKit
theorem sizeMachT : (Tryz.prog.info? 86).map (·.size) = some 269 := by kernel_rfl
namespace Dp
def Bools (w : World) (v : Value) (l : List Bool) : Prop :=
 ∃ b o ad cap, v = .slice ad l.length cap ∧ l.length ≤ 16777216 ∧ (l ≠ [] → ad = some ⟨b, o, none⟩) ∧ ∀ i (h : i < l.length), w.cell? ⟨b, o + i, none⟩ = some (.bool l[i])
def askedFrom (asked : List Bool) (D k : Nat) : Int := askedNum (asked.take k) * ((2 ^ (D - k) : Nat) : Int)
theorem askedStep (asked : List Bool) (D k : Nat) (hlt : k < asked.length) (hD : asked.length < D) (hn : D ≤ 16) (lf : Bool) (hM : asked[k] = lf) (fr sz : Int) (h : fr = askedFrom asked D k ∧ sz = ((2 ^ (D - k) : Nat) : Int)) :
  (0 ≤ fr ∧ fr ≤ 1000000) ∧ (0 ≤ sz ∧ sz ≤ 1000000) ∧ (if lf then fr else fr + sz / 2) = askedFrom asked D (k + 1) ∧ sz / 2 = ((2 ^ (D - (k + 1)) : Nat) : Int) := by
 obtain ⟨h1, h2⟩ := h
 unfold askedFrom askedNum at *
 have hb := numFrom_bd ((asked.take k).map fun b => ((0 : Int), b)) 0 0 (Int.le_refl _) (by decide)
 have hlen : ((asked.take k).map fun b => ((0 : Int), b)).length = k := by rw [List.length_map, List.length_take]; omega
 rw [hlen, Nat.zero_add] at hb
 have e1 : D - k = D - (k + 1) + 1 := by omega
 have ht : asked.take (k + 1) = asked.take k ++ [lf] := by rw [← hM]; exact List.take_succ_eq_append_getElem hlt
 have hp : ((2 ^ (D - k) : Nat) : Int) = 2 * ((2 ^ (D - (k + 1)) : Nat) : Int) := by rw [e1, Nat.pow_succ]; push_cast; omega
 have hkk : (2 : Int) ^ k = ((2 ^ k : Nat) : Int) := by push_cast; rfl
 have hs16 : 2 ^ k * 2 ^ (D - k) ≤ 2 ^ 16 := by rw [← Nat.pow_add]; exact Nat.pow_le_pow_right (by decide) (by omega)
 have hs1 : 2 ^ (D - k) ≤ 2 ^ 16 := Nat.pow_le_pow_right (by decide) (by omega)
 rw [ht, List.map_append, List.map_cons, List.map_nil, numFrom_snoc]
 generalize numFrom ((asked.take k).map fun b => ((0 : Int), b)) 0 = A at *
 generalize 2 ^ (D - (k + 1)) = q at *
 rw [hkk] at hb
 generalize 2 ^ (D - k) = p at *
 generalize 2 ^ k = r at *
 have hfr : A * (p : Int) ≤ (r : Int) * (p : Int) := Int.mul_le_mul_of_nonneg_right (by omega) (by omega)
 have hfr0 : 0 ≤ A * (p : Int) := Int.mul_nonneg hb.1 (by omega)
 have hrp : ((r * p : Nat) : Int) = (r : Int) * (p : Int) := by push_cast; rfl
 have hs16' : ((r * p : Nat) : Int) ≤ 65536 := by omega
 have hd : sz / 2 = (q : Int) := by omega
 refine ⟨⟨by omega, by omega⟩, ⟨by omega, by omega⟩, ?_, hd⟩
 rw [hd, h1, hp]
 cases lf with
 | true => simp; rw [Int.mul_comm 2 A, Int.mul_assoc]
 | false => simp; rw [Int.add_mul, Int.mul_comm 2 A, Int.mul_assoc]; omega
theorem asked_bd (asked : List Bool) (D : Nat) (hD : asked.length < D) (hn : D ≤ 16) : 0 ≤ askedFrom asked D asked.length ∧ askedFrom asked D asked.length ≤ 65536 := by
 unfold askedFrom askedNum
 have hb := numFrom_bd ((asked.take asked.length).map fun b => ((0 : Int), b)) 0 0 (Int.le_refl _) (by decide)
 have hlen : ((asked.take asked.length).map fun b => ((0 : Int), b)).length = asked.length := by simp
 rw [hlen, Nat.zero_add] at hb
 have hs16 : 2 ^ asked.length * 2 ^ (D - asked.length) ≤ 2 ^ 16 := by rw [← Nat.pow_add]; exact Nat.pow_le_pow_right (by decide) (by omega)
 have hkk : (2 : Int) ^ asked.length = ((2 ^ asked.length : Nat) : Int) := by push_cast; rfl
 rw [hkk] at hb
 generalize numFrom ((asked.take asked.length).map fun b => ((0 : Int), b)) 0 = A at *
 generalize 2 ^ (D - asked.length) = p at *
 generalize 2 ^ asked.length = r at *
 have hfr : A * (p : Int) ≤ (r : Int) * (p : Int) := Int.mul_le_mul_of_nonneg_right (by omega) (by omega)
 have hfr0 : 0 ≤ A * (p : Int) := Int.mul_nonneg hb.1 (by omega)
 have hrp : ((r * p : Nat) : Int) = (r : Int) * (p : Int) := by push_cast; rfl
 have hs16' : ((r * p : Nat) : Int) ≤ 65536 := by omega
 omega
end Dp
set_option maxRecDepth 100000 in
set_option maxHeartbeats 2000000 in
theorem progMiddle (w : World) (D : Nat) (vm : Value) (asked : List Bool) (hm : Dp.Bools w vm asked) (hD : asked.length < D) (hn : D ≤ 16) :
  Calls Tryz.prog 112 #[.int .i64 D, vm] w fun e w' => e = .returned (.tuple #[.int .i64 (Dp.askedFrom asked D asked.length + ((2 ^ (D - asked.length) : Nat) : Int) / 2), .int .i64 0]) ∧ Dp.Keeps (fun _ => False) w w' := by
 obtain ⟨mb, mo, mad, mcap, rfl, hml, hmne, hmc⟩ := hm
 have HMC := Hid.mk_ hmc
 have HMN := Hid.mk_ hmne
 clear hmc hmne
 have HP0 : Hid (∀ wx, (binOp .shl 3 (.int .i64 1) (.int .i64 (D : Int))).run Tryz.prog wx = .ok (.int .i64 ((2 ^ D : Nat) : Int)) wx) := by
  intro wx
  have : ∀ (n : Nat), n ≤ 16 → (binOp .shl 3 (.int .i64 1) (.int .i64 (n : Int))).run Tryz.prog wx = .ok (.int .i64 ((2 ^ n : Nat) : Int)) wx := by
   intro n h
   rcases (by omega : n = 0 ∨ n = 1 ∨ n = 2 ∨ n = 3 ∨ n = 4 ∨ n = 5 ∨ n = 6 ∨ n = 7 ∨ n = 8 ∨ n = 9 ∨ n = 10 ∨ n = 11 ∨ n = 12 ∨ n = 13 ∨ n = 14 ∨ n = 15 ∨ n = 16) with rfl | rfl | rfl | rfl | rfl | rfl | rfl | rfl | rfl | rfl | rfl | rfl | rfl | rfl | rfl | rfl | rfl <;> rfl
  exact this _ hn
 obtain ⟨pw, HPW⟩ : ∃ x : Int, Hid (x = ((2 ^ D : Nat) : Int)) := ⟨_, rfl⟩
 have HP1 : Hid (∀ wx, (binOp .shl 3 (.int .i64 1) (.int .i64 (D : Int))).run Tryz.prog wx = .ok (.int .i64 pw) wx) := by
  intro wx; rw [HPW.out]; exact HP0.out wx
 clear HP0
 have hD1 : (1 : Int) ≤ D := by omega
 have hD2 : (D : Int) ≤ 16 := by omega
 have hD3 : (asked.length : Int) < D := by omega
 go_enter Tryz.func112, Tryz.ntmps112
 go_wp2_with (first | (refine Dp.wpList_binop rfl .shl 3 _ _ _ rfl (.int .i64 1) (.int .i64 (D : Int)) (.int .i64 pw) rfl rfl rfl (HP1.out _) ?_; intro _) | (refine Dp.wpList_alloc_row rfl 114 rfl _ zeroStretch ?_))
 intro w2 r2 z2 k2
 have HR2 : Hid (Dp.Row w2 w.heap.size 114 ([] ++ [.int .i64 0, .int .i64 0] ++ [])) := Dp.row_nil r2
 clear r2
 go_wp2_with (refine Dp.wpList_store_in rfl 114 _ _ rfl w.heap.size 0 rfl [.int .i64 0, .int .i64 pw] rfl 114 [] [.int .i64 0, .int .i64 0] [] HR2.out rfl rfl (by rw [sizeStretch]; rfl) (by intro v hv; simp at hv; rcases hv with rfl | rfl <;> rfl) ?_)
 intro w3 r3 z3 k3
 have HRS : Hid (Dp.Row w3 w.heap.size 114 [.int .i64 0, .int .i64 pw]) := by unfold Hid; simpa using r3
 have HK : Hid (Dp.Keeps (fun _ => False) w w3) := k2.next k3 (fun i hi e => by omega)
 clear r3 k2 k3 z2 z3 HR2
 go_wp2
 go_loopw [26] (fun i wr => ∃ (k : Nat) (fr sz : Int), k ≤ asked.length ∧ i = .int .i64 k ∧ Hid (fr = Dp.askedFrom asked D k ∧ sz = ((2 ^ (D - k) : Nat) : Int)) ∧ Dp.Row wr w.heap.size 114 [.int .i64 fr, .int .i64 sz] ∧ Dp.Keeps (fun _ => False) w wr) (fun i _ => asked.length - (intOf i).toNat)
 case atStart =>
  refine ⟨0, 0, pw, Nat.zero_le _, rfl, ⟨?_, ?_⟩, HRS.out, HK.out⟩
  ·simp [Dp.askedFrom, Dp.askedNum, Dp.numFrom]
  ·rw [HPW.out, Nat.sub_zero]
 case round =>
  obtain ⟨k, fr, sz, hk, rfl, HF, rs, kr⟩ := hrel
  clear HRS HK
  by_cases hlt : k < asked.length
  ·have hm0 := HMC.out k hlt
   have had : mad = some ⟨mb, mo, none⟩ := HMN.out (by intro h; rw [h] at hlt; simp at hlt)
   subst had
   have c0 : wr.cell? ⟨mb, mo + k, none⟩ = some (.bool asked[k]) := (kr.cell (p := ⟨mb, mo + k, none⟩) (Dp.cell_lt hm0) (fun e => e)).trans hm0
   clear hm0
   have HNS := Hid.mk_ (Dp.askedStep asked D k hlt hD hn)
   generalize asked[k] = lf at *
   have HN := Hid.mk_ (HNS.out lf rfl fr sz HF.out)
   clear HNS
   have hsz' := rs.lt
   have HRS := Hid.mk_ rs
   have HKR := Hid.mk_ kr
   clear rs kr
   go_wp2_with fail
   refine (progHalve _ fr sz lf _ HRS.out HN.out.1 HN.out.2.1).mono ?_
   rintro e w5 ⟨rfl, rs5, k5⟩
   have HRS5 := Hid.mk_ rs5
   have HKR5 : Hid (Dp.Keeps (fun _ => False) w w5) := HKR.out.next k5 (fun i hi e => by omega)
   clear rs5 k5 c0 HRS HKR
   go_wp2
   go_roundw
   case rel => exact ⟨k + 1, _, _, by omega, by push_cast; rfl, ⟨HN.out.2.2.1, HN.out.2.2.2⟩, HRS5.out, HKR5.out⟩
   case measure => simp [intOf]; omega
  ·obtain rfl : k = asked.length := by omega
   have hab : 0 ≤ fr ∧ fr ≤ 65536 := by rw [HF.out.1]; exact Dp.asked_bd asked D hD hn
   have hpb : 0 ≤ sz ∧ sz ≤ 65536 := by
    rw [HF.out.2]
    have : 2 ^ (D - asked.length) ≤ 2 ^ 16 := Nat.pow_le_pow_right (by decide) (by omega)
    generalize 2 ^ (D - asked.length) = q at *
    omega
   have c0 : wr.cell? ⟨w.heap.size, 0, none⟩ = some (.int .i64 fr) := rs.cell 0
   have c1 : wr.cell? ⟨w.heap.size, 1, none⟩ = some (.int .i64 sz) := rs.cell 1
   go_wp2
   go_ret2
   refine ⟨?_, kr⟩
   rw [← HF.out.1, ← HF.out.2]
   rfl
set_option maxRecDepth 100000 in
set_option maxHeartbeats 1000000 in
theorem progMAnswer (w : World) (b : Nat) (G : Nat → Prop) (vs : Value) (m : Dp.Mach) (h : Dp.ProgM w b G vs m) (D : Nat) (vm : Value) (asked : List Bool) (hm : Dp.Bools w vm asked) (hD : asked.length < D) (hn : D ≤ 16) (n : Nat) (hn2 : Dp.askedFrom asked D asked.length + ((2 ^ (D - asked.length) : Nat) : Int) / 2 = (n : Int)) (hn3 : n ≤ 100000) (hgo : (Dp.Mach.run n m).2.2 = 0) :
  Calls Tryz.prog 88 #[.pointer (some ⟨b, 0, none⟩), .int .i64 D, vm] w fun e w' => e = .returned (.tuple #[.int .i64 (Dp.stamp (Dp.Mach.run n m).1.s (Dp.root (Dp.Mach.run n m).1.cells)), .int .i64 0]) ∧ Dp.Keeps (fun _ => False) w w' := by
 have HM := Hid.mk_ h
 have HGO := Hid.mk_ hgo
 clear h hgo
 go_enter Tryz.func88, Tryz.ntmps88
 go_wp2_with fail
 refine (progMiddle w D vm asked hm hD hn).mono ?_
 rintro e w1 ⟨rfl, k1⟩
 rw [hn2]
 have HM1 := Hid.mk_ (HM.out.keep k1 (fun e => e) (fun _ _ e => e))
 have HR1 := Hid.mk_ (Dp.row_nil HM1.out.row)
 have HLN : Hid ((Dp.stateCells m.s ++ Dp.memCells vs m.cells).length = 269) := by
  unfold Hid
  rw [List.length_append, Dp.stateCells_length _ HM1.out.ok.s.len, Dp.memCells_length, HM1.out.ok.len]
 have HK1 := Hid.mk_ k1
 have HONE : Hid (∀ v ∈ Dp.stateCells m.s ++ Dp.memCells vs m.cells, v.oneCell' = true) := by
  intro v hv
  rw [List.mem_append] at hv
  rcases hv with hv | hv
  ·exact Dp.stateCells_one _ v hv
  ·exact Dp.memCells_one _ _ (by obtain ⟨_, _, _, _, e, _⟩ := HM1.out.src; rw [e]; rfl) v hv
 clear HM k1 hm
 generalize hC : Dp.stateCells m.s ++ Dp.memCells vs m.cells = C at *
 have HC := Hid.mk_ hC
 clear hC
 go_wp2_with (first | (refine Dp.wpList_load_in rfl 86 _ rfl b 0 rfl 86 [] C [] HR1.out rfl _ Tryz.underlying86 rfl (by rw [sizeMachT, HLN.out]) ?_; intro _) | (refine Dp.wpList_alloc_row rfl 86 rfl _ zeroMach ?_))
 intro w2 r2 z2 k2
 have HR2 := Hid.mk_ (Dp.row_nil r2)
 have HZL : Hid ((Dp.stateCells Dp.zeroCs ++ Dp.memCells (.slice none 0 0) (List.replicate 256 0)).length = 269) := by unfold Hid; kernel_rfl
 clear r2
 go_wp2_with (refine Dp.wpList_store_in rfl 86 _ _ rfl w1.heap.size 0 rfl C rfl 86 [] (Dp.stateCells Dp.zeroCs ++ Dp.memCells (.slice none 0 0) (List.replicate 256 0)) [] HR2.out rfl (by rw [HLN.out, HZL.out]) (by rw [sizeMachT, HLN.out]) HONE.out ?_)
 intro w3 r3 z3 k3
 have r3' : Dp.Row w3 w1.heap.size 86 C := by simpa using r3
 have hs1 := HK1.out.size
 have k13 : Dp.Keeps (fun _ => False) w1 w3 := k2.next k3 (fun k hk e => by omega)
 have HM3 : Hid (Dp.ProgM w3 w1.heap.size G vs m) := ⟨HM1.out.ok, by rw [HC.out]; exact r3', HM1.out.src.keep k13 (fun q hq => ⟨(HM1.out.own q hq).1, fun e => e⟩), fun q hq => ⟨by have := (HM1.out.own q hq).1; have := k13.size; omega, by have := (HM1.out.own q hq).1; omega⟩⟩
 have HK3 := Hid.mk_ (HK1.out.trans k13)
 clear r3 r3' k2 k3 k13 HR2 HM1 HK1 HR1 HZL HC HLN z2 z3
 go_wp2_with fail
 refine (progRunM w3 w1.heap.size G vs m HM3.out n hn3).mono ?_
 rintro e w4 ⟨rfl, k4, hM4⟩
 rw [HGO.out]
 have HM4 := Hid.mk_ hM4
 have HK4 : Hid (Dp.Keeps (fun _ => False) w w4) := HK3.out.next k4 (fun q hq e => by omega)
 clear hM4 k4 HM3 HK3
 generalize (Dp.Mach.run n m).2.1 = dn at *
 generalize hmr : (Dp.Mach.run n m).1 = mr at *
 have HMR := Hid.mk_ hmr
 clear hmr
 go_wp2_with fail
 refine (progMStamp w4 w1.heap.size G vs mr HM4.out).mono ?_
 rintro e w5 ⟨rfl, k5⟩
 have HK5 := Hid.mk_ (HK4.out.trans k5)
 generalize hS : Dp.stamp mr.s (Dp.root mr.cells) = S at *
 have HS := Hid.mk_ hS
 clear k5 HK4 HM4 hS
 go_wp2
 go_ret2
 rw [HMR.out, HS.out]
 exact ⟨rfl, HK5.out⟩
end Go.Proofs.YtdipojfngdceoabGreatDoor
