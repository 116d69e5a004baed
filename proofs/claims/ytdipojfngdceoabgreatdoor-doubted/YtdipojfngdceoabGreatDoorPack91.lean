/- Steps on the way: ProgSettle, ProgAnswer. -/
import Derived.Test.YtdipojfngdceoabGreatDoorPack21
import Derived.Test.YtdipojfngdceoabGreatDoorPack80
import Derived.Test.YtdipojfngdceoabGreatDoorPack83
import Derived.Test.YtdipojfngdceoabGreatDoorPack90
/- The program settles a dispute. -/
namespace Go.Proofs.YtdipojfngdceoabGreatDoor
open Go.RowKit

namespace Dp
/-- The slice value v holds just these moves. -/
def Moves (w : World) (v : Value) (ms : List (Int × Bool)) : Prop :=
  ∃ b o ad cap, v = .slice ad ms.length cap ∧ ms.length ≤ 16777216 ∧ (ms ≠ [] → ad = some ⟨b, o, none⟩) ∧ ∀ i (h : i < ms.length), w.cell? ⟨b, o + i * 2, none⟩ = some (.int .i64 ms[i].1) ∧ w.cell? ⟨b, o + i * 2 + 1, none⟩ = some (.bool ms[i].2)
def verdictCells (a b n : Int) (up : Bool) : List Value := [.int .i64 a, .int .i64 b, .int .i64 n, .bool up]
/-- The verdict, and the error. -/
def settled (depth first last : Int) (ms : List (Int × Bool)) (l : List UInt8) : List Value × Int :=
  if depth < 0 ∨ depth > 16 then (verdictCells 0 0 0 false, 1)
  else if (ms.length : Int) ≠ depth then (verdictCells 0 0 0 false, 7)
  else (verdictCells (endsOf ms first last).1 (endsOf ms first last).2 (numFrom ms 0) (decide ((checked (endsOf ms first last).1 l).2 = 0) && (checked (endsOf ms first last).1 l).1 == (endsOf ms first last).2), 0)
theorem settled_cells (depth first last : Int) (ms : List (Int × Bool)) (l : List UInt8) : ∃ a b n up, (settled depth first last ms l).1 = verdictCells a b n up := by
  unfold settled
  split
  · exact ⟨_, _, _, _, rfl⟩
  · split
    · exact ⟨_, _, _, _, rfl⟩
    · exact ⟨_, _, _, _, rfl⟩
end Dp
theorem zeroVerdict : (Tryz.prog.info? 39).map (fun i => i.zero) = some (some (.agg (Dp.verdictCells 0 0 0 false).toArray)) := by kernel_rfl
theorem sizeVerdict : (Tryz.prog.info? 39).map (·.size) = some 4 := by kernel_rfl
theorem zeroStretch : (Tryz.prog.info? 114).map (fun i => i.zero) = some (some (.agg ([.int .i64 0, .int .i64 0] : List Value).toArray)) := by kernel_rfl
theorem sizeStretch : (Tryz.prog.info? 114).map (·.size) = some 2 := by kernel_rfl
theorem zeroMove : (Tryz.prog.info? 32).map (fun i => i.zero) = some (some (.agg ([.int .i64 0, .bool false] : List Value).toArray)) := by kernel_rfl
theorem sizeMove : (Tryz.prog.info? 32).map (·.size) = some 2 := by kernel_rfl

set_option maxRecDepth 100000 in
set_option maxHeartbeats 1000000 in
theorem progHalve (b : Nat) (fr sz : Int) (left : Bool) (w : World) (hr : Dp.Row w b 114 [.int .i64 fr, .int .i64 sz]) (h1 : 0 ≤ fr ∧ fr ≤ 1000000) (h2 : 0 ≤ sz ∧ sz ≤ 1000000) :
    Calls Tryz.prog 46 #[.pointer (some ⟨b, 0, none⟩), .bool left] w fun e w' => e = .returned (.tuple #[]) ∧ Dp.Row w' b 114 [.int .i64 (if left then fr else fr + sz / 2), .int .i64 (sz / 2)] ∧ Dp.Keeps (fun k => k = b) w w' := by
  have c0 : w.cell? ⟨b, 0, none⟩ = some (.int .i64 fr) := hr.cell 0
  have c1 : w.cell? ⟨b, 1, none⟩ = some (.int .i64 sz) := hr.cell 1
  have f0 := hr.frozen 0
  have f1 := hr.frozen 1
  have HR1 := Hid.mk_ (hr.set 1 (.int .i64 (sz / 2)))
  have HK1 : Hid (Dp.Keeps (fun k => k = b) w (w.setCell ⟨b, 1, none⟩ (.int .i64 (sz / 2)))) := Dp.Keeps.setCell (S := fun k => k = b) (p := ⟨b, 1, none⟩) (Dp.Keeps.refl _ _) (.inr rfl) _
  cases left with
  | true =>
    go_enter Tryz.func46, Tryz.ntmps46
    go_wp2
    go_end0
    exact ⟨rfl, HR1.out, HK1.out⟩
  | false =>
    go_enter Tryz.func46, Tryz.ntmps46
    go_wp2
    generalize hW : w.setCell ⟨b, 1, none⟩ (.int .i64 (sz / 2)) = w1 at *
    have d0 : w1.cell? ⟨b, 0, none⟩ = some (.int .i64 fr) := HR1.out.cell 0
    have d1 : w1.cell? ⟨b, 1, none⟩ = some (.int .i64 (sz / 2)) := HR1.out.cell 1
    have g0 := HR1.out.frozen 0
    have HR2 : Hid (Dp.Row (w1.setCell ⟨b, 0, none⟩ (.int .i64 (fr + sz / 2))).drew b 114 [.int .i64 (fr + sz / 2), .int .i64 (sz / 2)]) := (HR1.out.set 0 (.int .i64 (fr + sz / 2))).drew
    have HK2 : Hid (Dp.Keeps (fun k => k = b) w (w1.setCell ⟨b, 0, none⟩ (.int .i64 (fr + sz / 2))).drew) := (HK1.out.setCell (p := ⟨b, 0, none⟩) (.inr rfl) _).drew
    have hb2 : sz / 2 ≤ 1000000 ∧ 0 ≤ sz / 2 := by omega
    generalize hHH : sz / 2 = H at *
    have HHH := Hid.mk_ hHH
    clear hHH
    clear hW c0 c1 f0 f1
    go_region
    go_wp2
    go_end0
    rw [HHH.out]
    exact ⟨rfl, HR2.out, HK2.out⟩

set_option maxRecDepth 100000 in
set_option maxHeartbeats 2000000 in
theorem progUSettle (w : World) (eb : Addr) (depth first last : Int) (vm : Value) (ms : List (Int × Bool)) (ad : Option Addr) (cap : Nat) (l : List UInt8) (he : Dp.ErrAt w eb) (hm : Dp.Moves w vm ms) (hc : Dp.Cutting w (.slice ad l.length cap) l) (hl : l.length ≤ 9223372036854775807) :
    Calls Tryz.prog 30 #[.int .i64 depth, .int .i64 first, .int .i64 last, vm, .slice ad l.length cap] w fun e w' => e = .returned (.tuple #[.agg (Dp.settled depth first last ms l).1.toArray, .int .i64 (Dp.settled depth first last ms l).2]) ∧ Dp.Keeps (fun _ => False) w w' := by
  obtain ⟨mb, mo, mad, mcap, rfl, hml, hmne, hmc⟩ := hm
  have HMC := Hid.mk_ hmc
  have HMN := Hid.mk_ hmne
  clear hmc hmne
  by_cases hd : depth < 0 ∨ depth > 16
  · have HS : Hid (Dp.settled depth first last ms l = (Dp.verdictCells 0 0 0 false, 1)) := if_pos hd
    rcases hd with hd | hd
    · have hg : decide (depth < 0) = true := decide_eq_true hd
      go_enter Tryz.func30, Tryz.ntmps30
      go_wp2_with (refine Dp.wpList_alloc_row rfl 39 rfl _ zeroVerdict ?_)
      intro w1 r1 z1 k1
      have HR1 := Hid.mk_ (Dp.row_nil r1)
      clear r1
      go_wp2_with (refine Dp.wpList_store_in rfl 39 _ _ rfl w.heap.size 0 rfl (Dp.verdictCells 0 0 0 false) rfl 39 [] _ [] HR1.out rfl rfl (by rw [sizeVerdict]; rfl) (by intro v hv; simp [Dp.verdictCells] at hv; rcases hv with rfl | rfl <;> rfl) ?_)
      intro w2 r2 z2 k2
      have r2' : Dp.Row w2 w.heap.size 39 (Dp.verdictCells 0 0 0 false) := by simpa using r2
      go_wp2
      refine bodyPost_ret (v := .tuple #[.agg (Dp.verdictCells 0 0 0 false).toArray, .int .i64 1]) (Dp.results_row_tmp (p := 10) (u := 11) (ty := 39) rfl _ _ w.heap.size 39 _ _ rfl r2' Tryz.underlying39 rfl (by rw [sizeVerdict]; rfl)) rfl ?_
      rw [HS.out]
      exact ⟨rfl, k1.next k2 (fun i hi e => by omega)⟩
    · have hg : decide (depth < 0) = false := decide_eq_false (by omega)
      have hg2 : decide ((16 : Int) < depth) = true := decide_eq_true hd
      go_enter Tryz.func30, Tryz.ntmps30
      go_wp2_with (refine Dp.wpList_alloc_row rfl 39 rfl _ zeroVerdict ?_)
      intro w1 r1 z1 k1
      have HR1 := Hid.mk_ (Dp.row_nil r1)
      clear r1
      go_wp2_with (refine Dp.wpList_store_in rfl 39 _ _ rfl w.heap.size 0 rfl (Dp.verdictCells 0 0 0 false) rfl 39 [] _ [] HR1.out rfl rfl (by rw [sizeVerdict]; rfl) (by intro v hv; simp [Dp.verdictCells] at hv; rcases hv with rfl | rfl <;> rfl) ?_)
      intro w2 r2 z2 k2
      have r2' : Dp.Row w2 w.heap.size 39 (Dp.verdictCells 0 0 0 false) := by simpa using r2
      go_wp2
      refine bodyPost_ret (v := .tuple #[.agg (Dp.verdictCells 0 0 0 false).toArray, .int .i64 1]) (Dp.results_row_tmp (p := 10) (u := 11) (ty := 39) rfl _ _ w.heap.size 39 _ _ rfl r2' Tryz.underlying39 rfl (by rw [sizeVerdict]; rfl)) rfl ?_
      rw [HS.out]
      exact ⟨rfl, k1.next k2 (fun i hi e => by omega)⟩
  have hg : decide (depth < 0) = false := decide_eq_false (by omega)
  have hg2 : decide ((16 : Int) < depth) = false := decide_eq_false (by omega)
  by_cases hn : (ms.length : Int) = depth
  case neg =>
    have HS : Hid (Dp.settled depth first last ms l = (Dp.verdictCells 0 0 0 false, 7)) := by unfold Hid Dp.settled; rw [if_neg hd, if_pos hn]
    have hg3 : ((ms.length : Int) != depth) = true := by simpa using hn
    go_enter Tryz.func30, Tryz.ntmps30
    go_wp2_with (refine Dp.wpList_alloc_row rfl 39 rfl _ zeroVerdict ?_)
    intro w1 r1 z1 k1
    have HR1 := Hid.mk_ (Dp.row_nil r1)
    clear r1
    go_wp2_with (refine Dp.wpList_store_in rfl 39 _ _ rfl w.heap.size 0 rfl (Dp.verdictCells 0 0 0 false) rfl 39 [] _ [] HR1.out rfl rfl (by rw [sizeVerdict]; rfl) (by intro v hv; simp [Dp.verdictCells] at hv; rcases hv with rfl | rfl <;> rfl) ?_)
    intro w2 r2 z2 k2
    have r2' : Dp.Row w2 w.heap.size 39 (Dp.verdictCells 0 0 0 false) := by simpa using r2
    go_wp2
    refine bodyPost_ret (v := .tuple #[.agg (Dp.verdictCells 0 0 0 false).toArray, .int .i64 7]) (Dp.results_row_tmp (p := 10) (u := 11) (ty := 39) rfl _ _ w.heap.size 39 _ _ rfl r2' Tryz.underlying39 rfl (by rw [sizeVerdict]; rfl)) rfl ?_
    rw [HS.out]
    exact ⟨rfl, k1.next k2 (fun i hi e => by omega)⟩
  have HS : Hid (Dp.settled depth first last ms l = (Dp.verdictCells (Dp.endsOf ms first last).1 (Dp.endsOf ms first last).2 (Dp.numFrom ms 0) (decide ((Dp.checked (Dp.endsOf ms first last).1 l).2 = 0) && (Dp.checked (Dp.endsOf ms first last).1 l).1 == (Dp.endsOf ms first last).2), 0)) := by
    unfold Hid Dp.settled; rw [if_neg hd, if_neg (by simpa using hn)]
  subst hn
  have hg3 : ((ms.length : Int) != (ms.length : Int)) = false := by simp
  have hn16 : ms.length ≤ 16 := by omega
  have HP0 : Hid (∀ wx, (binOp .shl 3 (.int .i64 1) (.int .i64 (ms.length : Int))).run Tryz.prog wx = .ok (.int .i64 ((2 ^ ms.length : Nat) : Int)) wx) := by
    intro wx
    have : ∀ (n : Nat), n ≤ 16 → (binOp .shl 3 (.int .i64 1) (.int .i64 (n : Int))).run Tryz.prog wx = .ok (.int .i64 ((2 ^ n : Nat) : Int)) wx := by
      intro n h
      rcases (by omega : n = 0 ∨ n = 1 ∨ n = 2 ∨ n = 3 ∨ n = 4 ∨ n = 5 ∨ n = 6 ∨ n = 7 ∨ n = 8 ∨ n = 9 ∨ n = 10 ∨ n = 11 ∨ n = 12 ∨ n = 13 ∨ n = 14 ∨ n = 15 ∨ n = 16) with rfl | rfl | rfl | rfl | rfl | rfl | rfl | rfl | rfl | rfl | rfl | rfl | rfl | rfl | rfl | rfl | rfl <;> rfl
    exact this _ hn16
  obtain ⟨pw, HPW⟩ : ∃ x : Int, Hid (x = ((2 ^ ms.length : Nat) : Int)) := ⟨_, rfl⟩
  have HP1 : Hid (∀ wx, (binOp .shl 3 (.int .i64 1) (.int .i64 (ms.length : Int))).run Tryz.prog wx = .ok (.int .i64 pw) wx) := by
    intro wx; rw [HPW.out]; exact HP0.out wx
  clear hd HP0
  go_enter Tryz.func30, Tryz.ntmps30
  go_wp2_with (refine Dp.wpList_alloc_row rfl 39 rfl _ zeroVerdict ?_)
  intro w1 r1 z1 k1
  go_wp2_with (first | (refine Dp.wpList_binop rfl .shl 3 _ _ _ rfl (.int .i64 1) (.int .i64 (ms.length : Int)) (.int .i64 pw) rfl rfl rfl (HP1.out _) ?_; intro _) | (refine Dp.wpList_alloc_row rfl 114 rfl _ zeroStretch ?_))
  intro w2 r2 z2 k2
  have HR2 : Hid (Dp.Row w2 (w.heap.size + 1) 114 ([] ++ [.int .i64 0, .int .i64 0] ++ [])) := Dp.row_nil r2
  clear r2
  go_wp2_with (refine Dp.wpList_store_in rfl 114 _ _ rfl (w.heap.size + 1) 0 rfl [.int .i64 0, .int .i64 pw] rfl 114 [] [.int .i64 0, .int .i64 0] [] HR2.out rfl rfl (by rw [sizeStretch]; rfl) (by intro v hv; simp at hv; rcases hv with rfl | rfl <;> rfl) ?_)
  intro w3 r3 z3 k3
  have HRS : Hid (Dp.Row w3 (w.heap.size + 1) 114 [.int .i64 0, .int .i64 pw]) := by unfold Hid; simpa using r3
  have HRV := Hid.mk_ ((r1.keep k2 (fun e => e)).keep k3 (fun e => by omega))
  have HK : Hid (Dp.Keeps (fun _ => False) w w3) := (k1.trans k2).next k3 (fun i hi e => by omega)
  clear r1 r3 k1 k2 k3 z1 z2 z3 HR2
  go_wp2
  go_loopw [1, 2, 35] (fun a b i wr => ∃ (k : Nat) (fr sz : Int), k ≤ ms.length ∧ i = .int .i64 k ∧ a = .int .i64 (Dp.endsOf (ms.take k) first last).1 ∧ b = .int .i64 (Dp.endsOf (ms.take k) first last).2 ∧ Hid (fr = Dp.numFrom (ms.take k) 0 * ((2 ^ (ms.length - k) : Nat) : Int) ∧ sz = ((2 ^ (ms.length - k) : Nat) : Int)) ∧ Dp.Row wr (w.heap.size + 1) 114 [.int .i64 fr, .int .i64 sz] ∧ Dp.Row wr w.heap.size 39 (Dp.verdictCells 0 0 0 false) ∧ Dp.Keeps (fun _ => False) w wr) (fun _ _ i _ => ms.length - (intOf i).toNat)
  case atStart =>
    refine ⟨0, 0, pw, Nat.zero_le _, rfl, rfl, rfl, ⟨?_, ?_⟩, HRS.out, HRV.out, HK.out⟩
    · simp [Dp.numFrom]
    · rw [HPW.out, Nat.sub_zero]
  case round =>
    obtain ⟨k, fr, sz, hk, rfl, rfl, rfl, HF, rs, rv, kr⟩ := hrel
    clear HRS HRV HK
    generalize hE : Dp.endsOf (ms.take k) first last = E at *
    by_cases hlt : k < ms.length
    · obtain ⟨hm0, hm1⟩ := HMC.out k hlt
      have had : mad = some ⟨mb, mo, none⟩ := HMN.out (by intro h; rw [h] at hlt; simp at hlt)
      have hMb := Dp.cell_lt hm0
      have HRG : Hid (wr.rangeAt mb (mo + k * 2) [.int .i64 ms[k].1, .bool ms[k].2]) := by
        intro j v hj
        match j, hj with
        | 0, hj => simp at hj; subst hj; exact (kr.cell (p := ⟨mb, mo + k * 2, none⟩) hMb (fun e => e)).trans hm0
        | 1, hj => simp at hj; subst hj; exact (kr.cell (p := ⟨mb, mo + k * 2 + 1, none⟩) hMb (fun e => e)).trans hm1
      clear hm0 hm1
      subst had
      have HST := Hid.mk_ (Dp.endsOf_snoc (ms.take k) ms[k] first last)
      have HT : Hid (ms.take (k + 1) = ms.take k ++ [ms[k]]) := List.take_succ_eq_append_getElem hlt
      have HNS := Hid.mk_ (Dp.numStep ms k hlt hn16)
      generalize ms[k] = M at *
      obtain ⟨x, lf⟩ := M
      have HN := Hid.mk_ (HNS.out x lf rfl fr sz HF.out)
      clear HNS
      rw [hE] at HST
      generalize hE1 : E.1 = E1 at *
      generalize hE2 : E.2 = E2 at *
      have hsz := rv.lt
      have hsz' := rs.lt
      have HRM := Hid.mk_ (Dp.Row.allocNew wr 32 [.int .i64 x, .bool lf])
      have HKM : Hid (Dp.Keeps (fun _ => False) wr (wr.alloc (.cells ([.int .i64 x, .bool lf] : List Value).toArray 32))) := (Dp.Keeps.refl _ _).alloc _
      go_wp2_with (refine wpList_load_mid rfl 32 _ rfl mb (mo + k * 2) (by first | rfl | (simp; done)) [.int .i64 x, .bool lf] _ HRG.out Tryz.underlying32 rfl (by rw [sizeMove]; rfl) ?_)
      have rs4 := rs.keep HKM.out (fun e => e)
      refine (progHalve _ fr sz lf _ rs4 HN.out.1 HN.out.2.1).mono ?_
      rintro e w5 ⟨rfl, rs5, k5⟩
      have rv5 := (rv.keep HKM.out (fun e => e)).keep k5 (by omega)
      have rm5 := HRM.out.keep k5 (by omega)
      have kr5 : Dp.Keeps (fun _ => False) w w5 := (kr.trans HKM.out).next k5 (fun i hi e => by omega)
      have c50 : w5.cell? ⟨wr.heap.size, 0, none⟩ = some (.int .i64 x) := rm5.cell 0
      have c51 : w5.cell? ⟨wr.heap.size, 1, none⟩ = some (.bool lf) := rm5.cell 1
      have HRS5 := Hid.mk_ rs5
      have HRV5 := Hid.mk_ rv5
      have HKR5 := Hid.mk_ kr5
      clear rs5 rv5 kr5 rm5 k5 rs4 rs rv kr HRM HKM HRG hsz hsz'
      cases lf with
      | true =>
        go_wp2
        go_roundw
        refine ⟨k + 1, _, _, by omega, by push_cast; rfl, ?_, ?_, ⟨HN.out.2.2.1, HN.out.2.2.2⟩, HRS5.out, HRV5.out, HKR5.out⟩
        · rw [HT.out, HST.out]; simp
        · rw [HT.out, HST.out]; simp
        · simp [intOf]; omega
      | false =>
        go_wp2
        go_roundw
        refine ⟨k + 1, _, _, by omega, by push_cast; rfl, ?_, ?_, ⟨HN.out.2.2.1, HN.out.2.2.2⟩, HRS5.out, HRV5.out, HKR5.out⟩
        · rw [HT.out, HST.out]; simp
        · rw [HT.out, HST.out]; simp
        · simp [intOf]; omega
    · obtain rfl : k = ms.length := by omega
      rw [List.take_length] at hE HF
      have HF' : Hid (fr = Dp.numFrom ms 0) := by have := HF.out.1; rw [Nat.sub_self] at this; unfold Hid; simpa using this
      have he' := he.keep kr
      have hc' := hc.still kr
      rw [hE, ← HF'.out] at HS
      clear HF
      go_wp2_with fail
      refine (progVCheck wr eb E.1 ad cap l he' hc' hl).mono ?_
      rintro e w6 ⟨rfl, k6⟩
      generalize Dp.checked E.1 l = V at *
      obtain ⟨V1, V2⟩ := V
      obtain ⟨E1, E2⟩ := E
      have HRV6 := Hid.mk_ (Dp.row_nil (rv.keep k6 (fun e => e)))
      have c0 : w6.cell? ⟨w.heap.size + 1, 0, none⟩ = some (.int .i64 fr) := (rs.keep k6 (fun e => e)).cell 0
      have HK6 := Hid.mk_ (kr.trans k6)
      clear rs rv kr k6 he' hc' he hc
      obtain ⟨up, HUP⟩ : ∃ u, Hid (u = (decide (V2 = 0) && V1 == E2)) := ⟨_, rfl⟩
      rw [← HUP.out] at HS
      have hcase : ((V2 == 0) = false ∧ up = false) ∨ ((V2 == 0) = true ∧ (V1 == E2) = up) := by
        rw [HUP.out]
        by_cases h : V2 = 0
        · right; subst h; simp
        · left; simp [h]
      rcases hcase with ⟨hv, hu⟩ | ⟨hv, hu⟩
      · subst hu
        go_wp2_with (refine Dp.wpList_store_in rfl 39 _ _ rfl w.heap.size 0 rfl (Dp.verdictCells E1 E2 fr false) rfl 39 [] (Dp.verdictCells 0 0 0 false) [] HRV6.out rfl rfl (by rw [sizeVerdict]; rfl) (by intro v hv; simp [Dp.verdictCells] at hv; rcases hv with rfl | rfl | rfl | rfl <;> rfl) ?_)
        intro w7 r7 z7 k7
        have r7' : Dp.Row w7 w.heap.size 39 (Dp.verdictCells E1 E2 fr false) := by simpa using r7
        go_wp2
        refine bodyPost_ret (v := .tuple #[.agg (Dp.verdictCells E1 E2 fr false).toArray, .int .i64 0]) (Dp.results_row_tmp (p := 10) (u := 11) (ty := 39) rfl _ _ w.heap.size 39 _ _ rfl r7' Tryz.underlying39 rfl (by rw [sizeVerdict]; rfl)) rfl ?_
        rw [HS.out]
        exact ⟨rfl, HK6.out.next k7 (fun i hi e => by omega)⟩
      · go_wp2_with (refine Dp.wpList_store_in rfl 39 _ _ rfl w.heap.size 0 rfl (Dp.verdictCells E1 E2 fr up) rfl 39 [] (Dp.verdictCells 0 0 0 false) [] HRV6.out rfl rfl (by rw [sizeVerdict]; rfl) (by intro v hv; simp [Dp.verdictCells] at hv; rcases hv with rfl | rfl | rfl | rfl <;> rfl) ?_)
        intro w7 r7 z7 k7
        have r7' : Dp.Row w7 w.heap.size 39 (Dp.verdictCells E1 E2 fr up) := by simpa using r7
        go_wp2
        refine bodyPost_ret (v := .tuple #[.agg (Dp.verdictCells E1 E2 fr up).toArray, .int .i64 0]) (Dp.results_row_tmp (p := 10) (u := 11) (ty := 39) rfl _ _ w.heap.size 39 _ _ rfl r7' Tryz.underlying39 rfl (by rw [sizeVerdict]; rfl)) rfl ?_
        rw [HS.out]
        exact ⟨rfl, HK6.out.next k7 (fun i hi e => by omega)⟩

theorem Dp.Moves.keep {w w' : World} {v : Value} {ms : List (Int × Bool)} (h : Dp.Moves w v ms) (k : Dp.Keeps (fun _ => False) w w') : Dp.Moves w' v ms := by
  obtain ⟨b, o, ad, cap, e, hl, hn, hc⟩ := h
  refine ⟨b, o, ad, cap, e, hl, hn, fun i hi => ?_⟩
  obtain ⟨h0, h1⟩ := hc i hi
  exact ⟨(k.cell (p := ⟨b, o + i * 2, none⟩) (Dp.cell_lt h0) (fun e => e)).trans h0, (k.cell (p := ⟨b, o + i * 2 + 1, none⟩) (Dp.cell_lt h1) (fun e => e)).trans h1⟩

set_option maxRecDepth 100000 in
set_option maxHeartbeats 1000000 in
theorem progSettle (w : World) (eb : Addr) (depth first last : Int) (vm : Value) (ms : List (Int × Bool)) (ad : Option Addr) (cap : Nat) (l : List UInt8) (he : Dp.ErrAt w eb) (hm : Dp.Moves w vm ms) (hc : Dp.Cutting w (.slice ad l.length cap) l) (hl : l.length ≤ 9223372036854775807) :
    Calls Tryz.prog 12 #[.int .i64 depth, .int .i64 first, .int .i64 last, vm, .slice ad l.length cap] w fun e w' => e = .returned (.tuple #[.agg (Dp.settled depth first last ms l).1.toArray, .int .i64 (Dp.settled depth first last ms l).2]) ∧ Dp.Keeps (fun _ => False) w w' := by
  have HV : Hid (∃ a b n up, (Dp.settled depth first last ms l).1 = Dp.verdictCells a b n up) := Dp.settled_cells _ _ _ _ _
  have hvm : ∃ a c, vm = .slice a ms.length c := by obtain ⟨_, _, a, c, e, _⟩ := hm; exact ⟨a, c, e⟩
  obtain ⟨ma, mc, evm⟩ := hvm
  subst evm
  go_enter Tryz.func12, Tryz.ntmps12
  go_wp2_with (refine Dp.wpList_alloc_row rfl 39 rfl _ zeroVerdict ?_)
  intro w1 r1 z1 k1
  have he1 := he.keep k1
  have hc1 := hc.still k1
  have hm1 := hm.keep k1
  clear he hc hm
  go_wp2_with fail
  refine (progUSettle w1 eb depth first last _ ms ad cap l he1 hm1 hc1 hl).mono ?_
  rintro e w2 ⟨rfl, k2⟩
  generalize hR : Dp.settled depth first last ms l = R at *
  obtain ⟨R1, R2⟩ := R
  have HRR := Hid.mk_ hR
  clear hR
  obtain ⟨a, b, n, up, e1⟩ := HV.out
  have e1' : R1 = Dp.verdictCells a b n up := e1
  subst e1'
  clear HV e1
  have HR2 := Hid.mk_ (Dp.row_nil (r1.keep k2 (fun e => e)))
  have HK2 := Hid.mk_ (k1.trans k2)
  clear r1 k1 k2 he1 hc1 hm1
  go_wp2_with (refine Dp.wpList_store_in rfl 39 _ _ rfl w.heap.size 0 rfl (Dp.verdictCells a b n up) rfl 39 [] (Dp.verdictCells 0 0 0 false) [] HR2.out rfl rfl (by rw [sizeVerdict]; rfl) (by intro v hv; simp [Dp.verdictCells] at hv; rcases hv with rfl | rfl | rfl | rfl <;> rfl) ?_)
  intro w7 r7 z7 k7
  have r7' : Dp.Row w7 w.heap.size 39 (Dp.verdictCells a b n up) := by simpa using r7
  go_wp2
  refine bodyPost_ret (v := .tuple #[.agg (Dp.verdictCells a b n up).toArray, .int .i64 R2]) (Dp.results_row_tmp (p := 10) (u := 11) (ty := 39) rfl _ _ w.heap.size 39 _ _ rfl r7' Tryz.underlying39 rfl (by rw [sizeVerdict]; rfl)) rfl ?_
  rw [HRR.out]
  exact ⟨rfl, HK2.out.next k7 (fun i hi e => by omega)⟩
end Go.Proofs.YtdipojfngdceoabGreatDoor

/- The honest move. -/
namespace Go.Proofs.YtdipojfngdceoabGreatDoor
open Go.RowKit

theorem sizeMachT : (Tryz.prog.info? 86).map (·.size) = some 269 := by kernel_rfl
namespace Dp
/-- The slice value v holds just these bools. -/
def Bools (w : World) (v : Value) (l : List Bool) : Prop :=
  ∃ b o ad cap, v = .slice ad l.length cap ∧ l.length ≤ 16777216 ∧ (l ≠ [] → ad = some ⟨b, o, none⟩) ∧ ∀ i (h : i < l.length), w.cell? ⟨b, o + i, none⟩ = some (.bool l[i])
theorem Bools.still {w w' : World} {v : Value} {l : List Bool} (h : Bools w v l) (k : Keeps (fun _ => False) w w') : Bools w' v l := by
  obtain ⟨b, o, ad, cap, h1, h2, h3, h4⟩ := h
  exact ⟨b, o, ad, cap, h1, h2, h3, fun j hj => (k.cell (p := ⟨b, o + j, none⟩) (cell_lt (h4 j hj)) (fun e => e)).trans (h4 j hj)⟩
/-- The part of the stretch that is left when these were the Lefts. -/
def askedFrom (asked : List Bool) (D k : Nat) : Int := askedNum (asked.take k) * ((2 ^ (D - k) : Nat) : Int)
theorem askedStep (asked : List Bool) (D k : Nat) (hlt : k < asked.length) (hD : asked.length < D) (hn : D ≤ 16) (lf : Bool) (hM : asked[k] = lf) (fr sz : Int) (h : fr = askedFrom asked D k ∧ sz = ((2 ^ (D - k) : Nat) : Int)) :
    (0 ≤ fr ∧ fr ≤ 1000000) ∧ (0 ≤ sz ∧ sz ≤ 1000000) ∧ (if lf then fr else fr + sz / 2) = askedFrom asked D (k + 1) ∧ sz / 2 = ((2 ^ (D - (k + 1)) : Nat) : Int) := by
  obtain ⟨h1, h2⟩ := h
  unfold askedFrom askedNum at *
  have hb := numFrom_bd ((asked.take k).map fun b => ((0 : Int), b)) 0 0 (Int.le_refl _) (by decide)
  have hlen : ((asked.take k).map fun b => ((0 : Int), b)).length = k := by rw [List.length_map, List.length_take]; omega
  rw [hlen, Nat.zero_add] at hb
  have e1 : D - k = D - (k + 1) + 1 := by omega
  have ht : asked.take (k + 1) = asked.take k ++ [lf] := by rw [← hM]; exact List.take_succ_eq_append_getElem hlt
  have hp : ((2 ^ (D - k) : Nat) : Int) = 2 * ((2 ^ (D - (k + 1)) : Nat) : Int) := by rw [e1, Nat.pow_succ]; push_cast; omega
  have hkk : (2 : Int) ^ k = ((2 ^ k : Nat) : Int) := by push_cast; rfl
  have hs16 : 2 ^ k * 2 ^ (D - k) ≤ 2 ^ 16 := by rw [← Nat.pow_add]; exact Nat.pow_le_pow_right (by decide) (by omega)
  have hs1 : 2 ^ (D - k) ≤ 2 ^ 16 := Nat.pow_le_pow_right (by decide) (by omega)
  rw [ht, List.map_append, List.map_cons, List.map_nil, numFrom_snoc]
  generalize numFrom ((asked.take k).map fun b => ((0 : Int), b)) 0 = A at *
  generalize 2 ^ (D - (k + 1)) = q at *
  rw [hkk] at hb
  generalize 2 ^ (D - k) = p at *
  generalize 2 ^ k = r at *
  have hfr : A * (p : Int) ≤ (r : Int) * (p : Int) := Int.mul_le_mul_of_nonneg_right (by omega) (by omega)
  have hfr0 : 0 ≤ A * (p : Int) := Int.mul_nonneg hb.1 (by omega)
  have hrp : ((r * p : Nat) : Int) = (r : Int) * (p : Int) := by push_cast; rfl
  have hs16' : ((r * p : Nat) : Int) ≤ 65536 := by omega
  have hd : sz / 2 = (q : Int) := by omega
  refine ⟨⟨by omega, by omega⟩, ⟨by omega, by omega⟩, ?_, hd⟩
  rw [hd, h1, hp]
  cases lf with
  | true => simp; rw [Int.mul_comm 2 A, Int.mul_assoc]
  | false => simp; rw [Int.add_mul, Int.mul_comm 2 A, Int.mul_assoc]; omega
theorem asked_bd (asked : List Bool) (D : Nat) (hD : asked.length < D) (hn : D ≤ 16) : 0 ≤ askedFrom asked D asked.length ∧ askedFrom asked D asked.length ≤ 65536 := by
  unfold askedFrom askedNum
  have hb := numFrom_bd ((asked.take asked.length).map fun b => ((0 : Int), b)) 0 0 (Int.le_refl _) (by decide)
  have hlen : ((asked.take asked.length).map fun b => ((0 : Int), b)).length = asked.length := by simp
  rw [hlen, Nat.zero_add] at hb
  have hs16 : 2 ^ asked.length * 2 ^ (D - asked.length) ≤ 2 ^ 16 := by rw [← Nat.pow_add]; exact Nat.pow_le_pow_right (by decide) (by omega)
  have hkk : (2 : Int) ^ asked.length = ((2 ^ asked.length : Nat) : Int) := by push_cast; rfl
  rw [hkk] at hb
  generalize numFrom ((asked.take asked.length).map fun b => ((0 : Int), b)) 0 = A at *
  generalize 2 ^ (D - asked.length) = p at *
  generalize 2 ^ asked.length = r at *
  have hfr : A * (p : Int) ≤ (r : Int) * (p : Int) := Int.mul_le_mul_of_nonneg_right (by omega) (by omega)
  have hfr0 : 0 ≤ A * (p : Int) := Int.mul_nonneg hb.1 (by omega)
  have hrp : ((r * p : Nat) : Int) = (r : Int) * (p : Int) := by push_cast; rfl
  have hs16' : ((r * p : Nat) : Int) ≤ 65536 := by omega
  omega
end Dp

set_option maxRecDepth 100000 in
set_option maxHeartbeats 2000000 in
theorem progMiddle (w : World) (D : Nat) (vm : Value) (asked : List Bool) (hm : Dp.Bools w vm asked) (hD : asked.length < D) (hn : D ≤ 16) :
    Calls Tryz.prog 112 #[.int .i64 D, vm] w fun e w' => e = .returned (.tuple #[.int .i64 (Dp.askedFrom asked D asked.length + ((2 ^ (D - asked.length) : Nat) : Int) / 2), .int .i64 0]) ∧ Dp.Keeps (fun _ => False) w w' := by
  obtain ⟨mb, mo, mad, mcap, rfl, hml, hmne, hmc⟩ := hm
  have HMC := Hid.mk_ hmc
  have HMN := Hid.mk_ hmne
  clear hmc hmne
  have HP0 : Hid (∀ wx, (binOp .shl 3 (.int .i64 1) (.int .i64 (D : Int))).run Tryz.prog wx = .ok (.int .i64 ((2 ^ D : Nat) : Int)) wx) := by
    intro wx
    have : ∀ (n : Nat), n ≤ 16 → (binOp .shl 3 (.int .i64 1) (.int .i64 (n : Int))).run Tryz.prog wx = .ok (.int .i64 ((2 ^ n : Nat) : Int)) wx := by
      intro n h
      rcases (by omega : n = 0 ∨ n = 1 ∨ n = 2 ∨ n = 3 ∨ n = 4 ∨ n = 5 ∨ n = 6 ∨ n = 7 ∨ n = 8 ∨ n = 9 ∨ n = 10 ∨ n = 11 ∨ n = 12 ∨ n = 13 ∨ n = 14 ∨ n = 15 ∨ n = 16) with rfl | rfl | rfl | rfl | rfl | rfl | rfl | rfl | rfl | rfl | rfl | rfl | rfl | rfl | rfl | rfl | rfl <;> rfl
    exact this _ hn
  obtain ⟨pw, HPW⟩ : ∃ x : Int, Hid (x = ((2 ^ D : Nat) : Int)) := ⟨_, rfl⟩
  have HP1 : Hid (∀ wx, (binOp .shl 3 (.int .i64 1) (.int .i64 (D : Int))).run Tryz.prog wx = .ok (.int .i64 pw) wx) := by
    intro wx; rw [HPW.out]; exact HP0.out wx
  clear HP0
  have hD1 : (1 : Int) ≤ D := by omega
  have hD2 : (D : Int) ≤ 16 := by omega
  have hD3 : (asked.length : Int) < D := by omega
  go_enter Tryz.func112, Tryz.ntmps112
  go_wp2_with (first | (refine Dp.wpList_binop rfl .shl 3 _ _ _ rfl (.int .i64 1) (.int .i64 (D : Int)) (.int .i64 pw) rfl rfl rfl (HP1.out _) ?_; intro _) | (refine Dp.wpList_alloc_row rfl 114 rfl _ zeroStretch ?_))
  intro w2 r2 z2 k2
  have HR2 : Hid (Dp.Row w2 w.heap.size 114 ([] ++ [.int .i64 0, .int .i64 0] ++ [])) := Dp.row_nil r2
  clear r2
  go_wp2_with (refine Dp.wpList_store_in rfl 114 _ _ rfl w.heap.size 0 rfl [.int .i64 0, .int .i64 pw] rfl 114 [] [.int .i64 0, .int .i64 0] [] HR2.out rfl rfl (by rw [sizeStretch]; rfl) (by intro v hv; simp at hv; rcases hv with rfl | rfl <;> rfl) ?_)
  intro w3 r3 z3 k3
  have HRS : Hid (Dp.Row w3 w.heap.size 114 [.int .i64 0, .int .i64 pw]) := by unfold Hid; simpa using r3
  have HK : Hid (Dp.Keeps (fun _ => False) w w3) := k2.next k3 (fun i hi e => by omega)
  clear r3 k2 k3 z2 z3 HR2
  go_wp2
  go_loopw [26] (fun i wr => ∃ (k : Nat) (fr sz : Int), k ≤ asked.length ∧ i = .int .i64 k ∧ Hid (fr = Dp.askedFrom asked D k ∧ sz = ((2 ^ (D - k) : Nat) : Int)) ∧ Dp.Row wr w.heap.size 114 [.int .i64 fr, .int .i64 sz] ∧ Dp.Keeps (fun _ => False) w wr) (fun i _ => asked.length - (intOf i).toNat)
  case atStart =>
    refine ⟨0, 0, pw, Nat.zero_le _, rfl, ⟨?_, ?_⟩, HRS.out, HK.out⟩
    · simp [Dp.askedFrom, Dp.askedNum, Dp.numFrom]
    · rw [HPW.out, Nat.sub_zero]
  case round =>
    obtain ⟨k, fr, sz, hk, rfl, HF, rs, kr⟩ := hrel
    clear HRS HK
    by_cases hlt : k < asked.length
    · have hm0 := HMC.out k hlt
      have had : mad = some ⟨mb, mo, none⟩ := HMN.out (by intro h; rw [h] at hlt; simp at hlt)
      subst had
      have c0 : wr.cell? ⟨mb, mo + k, none⟩ = some (.bool asked[k]) := (kr.cell (p := ⟨mb, mo + k, none⟩) (Dp.cell_lt hm0) (fun e => e)).trans hm0
      clear hm0
      have HNS := Hid.mk_ (Dp.askedStep asked D k hlt hD hn)
      generalize asked[k] = lf at *
      have HN := Hid.mk_ (HNS.out lf rfl fr sz HF.out)
      clear HNS
      have hsz' := rs.lt
      have HRS := Hid.mk_ rs
      have HKR := Hid.mk_ kr
      clear rs kr
      go_wp2_with fail
      refine (progHalve _ fr sz lf _ HRS.out HN.out.1 HN.out.2.1).mono ?_
      rintro e w5 ⟨rfl, rs5, k5⟩
      have HRS5 := Hid.mk_ rs5
      have HKR5 : Hid (Dp.Keeps (fun _ => False) w w5) := HKR.out.next k5 (fun i hi e => by omega)
      clear rs5 k5 c0 HRS HKR
      go_wp2
      go_roundw
      case rel => exact ⟨k + 1, _, _, by omega, by push_cast; rfl, ⟨HN.out.2.2.1, HN.out.2.2.2⟩, HRS5.out, HKR5.out⟩
      case measure => simp [intOf]; omega
    · obtain rfl : k = asked.length := by omega
      have hab : 0 ≤ fr ∧ fr ≤ 65536 := by rw [HF.out.1]; exact Dp.asked_bd asked D hD hn
      have hpb : 0 ≤ sz ∧ sz ≤ 65536 := by
        rw [HF.out.2]
        have : 2 ^ (D - asked.length) ≤ 2 ^ 16 := Nat.pow_le_pow_right (by decide) (by omega)
        generalize 2 ^ (D - asked.length) = q at *
        omega
      have c0 : wr.cell? ⟨w.heap.size, 0, none⟩ = some (.int .i64 fr) := rs.cell 0
      have c1 : wr.cell? ⟨w.heap.size, 1, none⟩ = some (.int .i64 sz) := rs.cell 1
      go_wp2
      go_ret2
      refine ⟨?_, kr⟩
      rw [← HF.out.1, ← HF.out.2]
      rfl

set_option maxRecDepth 100000 in
set_option maxHeartbeats 1000000 in
theorem progMAnswer (w : World) (b : Nat) (G : Nat → Prop) (vs : Value) (m : Dp.Mach) (h : Dp.ProgM w b G vs m) (D : Nat) (vm : Value) (asked : List Bool) (hm : Dp.Bools w vm asked) (hD : asked.length < D) (hn : D ≤ 16) (n : Nat) (hn2 : Dp.askedFrom asked D asked.length + ((2 ^ (D - asked.length) : Nat) : Int) / 2 = (n : Int)) (hn3 : n ≤ 100000) (hgo : (Dp.Mach.run n m).2.2 = 0) :
    Calls Tryz.prog 88 #[.pointer (some ⟨b, 0, none⟩), .int .i64 D, vm] w fun e w' => e = .returned (.tuple #[.int .i64 (Dp.stamp (Dp.Mach.run n m).1.s (Dp.root (Dp.Mach.run n m).1.cells)), .int .i64 0]) ∧ Dp.Keeps (fun _ => False) w w' := by
  have HM := Hid.mk_ h
  have HGO := Hid.mk_ hgo
  clear h hgo
  go_enter Tryz.func88, Tryz.ntmps88
  go_wp2_with fail
  refine (progMiddle w D vm asked hm hD hn).mono ?_
  rintro e w1 ⟨rfl, k1⟩
  rw [hn2]
  have HM1 := Hid.mk_ (HM.out.keep k1 (fun e => e) (fun _ _ e => e))
  have HR1 := Hid.mk_ (Dp.row_nil HM1.out.row)
  have HLN : Hid ((Dp.stateCells m.s ++ Dp.memCells vs m.cells).length = 269) := by
    unfold Hid
    rw [List.length_append, Dp.stateCells_length _ HM1.out.ok.s.len, Dp.memCells_length, HM1.out.ok.len]
  have HK1 := Hid.mk_ k1
  have HONE : Hid (∀ v ∈ Dp.stateCells m.s ++ Dp.memCells vs m.cells, v.oneCell' = true) := by
    intro v hv
    rw [List.mem_append] at hv
    rcases hv with hv | hv
    · exact Dp.stateCells_one _ v hv
    · exact Dp.memCells_one _ _ (by obtain ⟨_, _, _, _, e, _⟩ := HM1.out.src; rw [e]; rfl) v hv
  clear HM k1 hm
  generalize hC : Dp.stateCells m.s ++ Dp.memCells vs m.cells = C at *
  have HC := Hid.mk_ hC
  clear hC
  go_wp2_with (first | (refine Dp.wpList_load_in rfl 86 _ rfl b 0 rfl 86 [] C [] HR1.out rfl _ Tryz.underlying86 rfl (by rw [sizeMachT, HLN.out]) ?_; intro _) | (refine Dp.wpList_alloc_row rfl 86 rfl _ zeroMach ?_))
  intro w2 r2 z2 k2
  have HR2 := Hid.mk_ (Dp.row_nil r2)
  have HZL : Hid ((Dp.stateCells Dp.zeroCs ++ Dp.memCells (.slice none 0 0) (List.replicate 256 0)).length = 269) := by unfold Hid; kernel_rfl
  clear r2
  go_wp2_with (refine Dp.wpList_store_in rfl 86 _ _ rfl w1.heap.size 0 rfl C rfl 86 [] (Dp.stateCells Dp.zeroCs ++ Dp.memCells (.slice none 0 0) (List.replicate 256 0)) [] HR2.out rfl (by rw [HLN.out, HZL.out]) (by rw [sizeMachT, HLN.out]) HONE.out ?_)
  intro w3 r3 z3 k3
  have r3' : Dp.Row w3 w1.heap.size 86 C := by simpa using r3
  have hs1 := HK1.out.size
  have k13 : Dp.Keeps (fun _ => False) w1 w3 := k2.next k3 (fun k hk e => by omega)
  have HM3 : Hid (Dp.ProgM w3 w1.heap.size G vs m) := ⟨HM1.out.ok, by rw [HC.out]; exact r3', HM1.out.src.keep k13 (fun q hq => ⟨(HM1.out.own q hq).1, fun e => e⟩), fun q hq => ⟨by have := (HM1.out.own q hq).1; have := k13.size; omega, by have := (HM1.out.own q hq).1; omega⟩⟩
  have HK3 := Hid.mk_ (HK1.out.trans k13)
  clear r3 r3' k2 k3 k13 HR2 HM1 HK1 HR1 HZL HC HLN z2 z3
  go_wp2_with fail
  refine (progRunM w3 w1.heap.size G vs m HM3.out n hn3).mono ?_
  rintro e w4 ⟨rfl, k4, hM4⟩
  rw [HGO.out]
  have HM4 := Hid.mk_ hM4
  have HK4 : Hid (Dp.Keeps (fun _ => False) w w4) := HK3.out.next k4 (fun q hq e => by omega)
  clear hM4 k4 HM3 HK3
  generalize (Dp.Mach.run n m).2.1 = dn at *
  generalize hmr : (Dp.Mach.run n m).1 = mr at *
  have HMR := Hid.mk_ hmr
  clear hmr
  go_wp2_with fail
  refine (progMStamp w4 w1.heap.size G vs mr HM4.out).mono ?_
  rintro e w5 ⟨rfl, k5⟩
  have HK5 := Hid.mk_ (HK4.out.trans k5)
  generalize hS : Dp.stamp mr.s (Dp.root mr.cells) = S at *
  have HS := Hid.mk_ hS
  clear k5 HK4 HM4 hS
  go_wp2
  go_ret2
  rw [HMR.out, HS.out]
  exact ⟨rfl, HK5.out⟩
end Go.Proofs.YtdipojfngdceoabGreatDoor
