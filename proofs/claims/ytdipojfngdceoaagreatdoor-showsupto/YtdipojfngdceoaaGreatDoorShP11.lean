/- Steps on the way: ProgRoot, ProgRoot2, ProgWord. -/
import Derived.Test.YtdipojfngdceoaaGreatDoorShP01
import Derived.Test.YtdipojfngdceoaaGreatDoorShP04
import Derived.Test.YtdipojfngdceoaaGreatDoorShP09
import Derived.Test.YtdipojfngdceoaaGreatDoorShP10
import Derived.Test.YtdipojfngdceoaaGreatDoorProg
import Derived.WalkKit
import Derived.WalkSpells
import Derived.WalkLawsBesides
/- The program's root: the digests of the single cells. -/
namespace Go.Proofs.YtdipojfngdceoaaGreatDoor
open Go.RowKit

namespace Dp
/-- The digests of all that has 2 to the power d cells. -/
def level (cells : List Int) (d : Nat) : List Int := (List.range (256 / 2 ^ d)).map fun k => digest cells (k * 2 ^ d) d
theorem level_length (cells : List Int) (d : Nat) : (level cells d).length = 256 / 2 ^ d := by simp [level]
theorem level_zero_getElem (cells : List Int) (k : Nat) (h : k < (level cells 0).length) : (level cells 0)[k] = sum (0 :: four (cells.getD k 0)) := by
 simp [level, digest]
theorem fill_next (l : List Int) (k : Nat) (hk : k < l.length) (n : Nat) (hn : l.length = n) : (regCells (l.take k) ++ List.replicate (n - k) (Value.int .i64 0)).set k (.int .i64 l[k]) = regCells (l.take (k + 1)) ++ List.replicate (n - (k + 1)) (.int .i64 0) := by
 have h1 : (regCells (l.take k)).length = k := by simp [regCells]; omega
 rw [List.set_append_right _ _ (by omega), h1, Nat.sub_self, List.take_succ_eq_append_getElem hk, show n - k = (n - (k + 1)) + 1 by omega, List.replicate_succ]
 rw [List.set_cons_zero]; unfold regCells; rw [List.map_append, List.append_assoc]; rfl
theorem fill_at (l : List Int) (k : Nat) (n : Nat) (hk : k < n) (hn : l.length = n) : (regCells (l.take k) ++ List.replicate (n - k) (Value.int .i64 0))[k]? = some (.int .i64 0) := by
 have h1 : (regCells (l.take k)).length = k := by simp [regCells]; omega
 rw [List.getElem?_append_right (by omega), h1, Nat.sub_self, show n - k = (n - (k + 1)) + 1 by omega, List.replicate_succ]
 rfl
end Dp
theorem sizeWords : (Tryz.prog.info? 103).map (·.size) = some 256 := by kernel_rfl

set_option maxRecDepth 100000 in
set_option maxHeartbeats 1000000 in
theorem progDigests (w : World) (b o : Nat) (ty : TypeId) (pre post : List Value) (vs : Value) (cells : List Int) (hl : cells.length = 256) (hr : Dp.Row w b ty (pre ++ Dp.memCells vs cells ++ post)) (ho : pre.length = o) (hw : ∀ x ∈ cells, Dp.isWord x) :
  Calls Tryz.prog 74 #[.pointer (some ⟨b, o, none⟩)] w fun e w' => e = .returned (.slice (some ⟨w.heap.size, 0, none⟩) 256 256) ∧ Dp.Row w' w.heap.size 3 (Dp.regCells (Dp.level cells 0)) ∧ Dp.Keeps (fun _ => False) w w' := by
 have hlt := hr.lt
 go_enter Tryz.func74, Tryz.ntmps74
 go_wp2_with (at_make; refine Dp.wpList_make_row _ rfl _ _ 22 rfl 3 (.int .i64 0) 8 Tryz.underlying22 infoInt rfl _ _ _ _ 256 rfl rfl (by omega) (by omega) (by omega) (by simp [maxLen]) ?_)
 intro w1 r1 z1 k1
 have hr1 := hr.keep k1 (fun e => e)
 have HR : Hid (Dp.Row w1 b ty ((pre ++ [vs]) ++ Dp.wordCells cells ++ post)) := by
  unfold Hid; have h := hr1; unfold Dp.memCells at h; simpa using h
 have HL : Hid ((pre ++ [vs]).length = o + 1) := by unfold Hid; simp [ho]
 have HW : Hid ((Dp.wordCells cells).length = 256) := by unfold Hid; simp [Dp.wordCells, hl]
 go_wp2_with (refine Dp.wpList_load_in rfl 103 _ rfl b (o + 1) rfl ty _ _ _ HR.out HL.out _ Tryz.underlying103 rfl (by rw [sizeWords, HW.out]) ?_)
 intro _
 go_wp2
 go_loopw [4, 5, 11] (fun _ _ i wr => ∃ k : Nat, k ≤ 256 ∧ i = .int .i64 k ∧ Dp.Row wr w.heap.size 3 (Dp.regCells ((Dp.level cells 0).take k) ++ List.replicate (256 - k) (.int .i64 0)) ∧ Dp.Keeps (fun _ => False) w wr) (fun _ _ i _ => 256 - (intOf i).toNat)
 case atStart => exact ⟨0, Nat.zero_le _, rfl, r1, k1⟩
 case round =>
  obtain ⟨k, hk, rfl, rr, kr⟩ := hrel
  have hll : (Dp.level cells 0).length = 256 := by rw [Dp.level_length]
  by_cases hk2 : k < 256
  ·have hx : (Dp.wordCells cells).toArray[k]? = some (.int .u32 (cells.getD k 0)) := by
    simp [Dp.wordCells, hl, hk2]
   have hwx : Dp.isWord (cells.getD k 0) := by
    rw [List.getD_eq_getElem?_getD, List.getElem?_eq_getElem (by omega)]; exact hw _ (List.getElem_mem _)
   have hidx : ∀ wx, (Instr.index 103 (.agg (Dp.wordCells cells).toArray) (.int .i64 (k : Int))).run Tryz.prog wx = .ok (.int .u32 (cells.getD k 0)) wx := fun wx => Dp.run_index_one wx 103 97 256 _ k _ (by rfl) (by rfl) (by rfl) hk2 hx
   have HG : Hid ((Dp.level cells 0)[k]'(by omega) = Dp.sum (0 :: Dp.four (cells.getD k 0))) := Dp.level_zero_getElem cells k (by omega)
   have HF := Hid.mk_ (Dp.fill_next (Dp.level cells 0) k (by omega) 256 hll)
   have hsb := Dp.sum_bd (0 :: Dp.four (cells.getD k 0))
   generalize cells.getD k 0 = cx at *
   clear HR hx hr hr1 r1
   go_wp2_with fail
   refine (progDCell cx _ hwx).mono ?_
   rintro e w3 ⟨rfl, k3⟩
   have rr3 := rr.keep k3 (fun e => e)
   have c3 : w3.cell? ⟨w.heap.size, k, none⟩ = some (.int .i64 0) := by rw [rr3.cell]; exact Dp.fill_at _ k 256 hk2 hll
   have f3 := rr3.frozen k
   have HR3 : Hid (Dp.Row (w3.setCell ⟨w.heap.size, k, none⟩ (.int .i64 (Dp.sum (0 :: Dp.four cx)))) w.heap.size 3 (Dp.regCells ((Dp.level cells 0).take (k + 1)) ++ List.replicate (256 - (k + 1)) (.int .i64 0))) := by
    have h := rr3.set k (.int .i64 (Dp.sum (0 :: Dp.four cx)))
    rw [← HG.out, HF.out] at h
    rw [← HG.out]; exact h
   have HK3 : Hid (Dp.Keeps (fun _ => False) w (w3.setCell ⟨w.heap.size, k, none⟩ (.int .i64 (Dp.sum (0 :: Dp.four cx))))) := (kr.trans k3).setCell (p := ⟨w.heap.size, k, none⟩) (.inl (Nat.le_refl _)) _
   generalize Dp.sum (0 :: Dp.four cx) = sx at *
   clear rr rr3 hidx
   go_wp2
   go_roundw
   case rel => exact ⟨k + 1, by omega, by go_num, HR3.out, HK3.out⟩
   case measure => simp [intOf]; omega
  ·obtain rfl : k = 256 := by omega
   have HR : Hid (Dp.Row wr w.heap.size 3 (Dp.regCells (Dp.level cells 0))) := by
    unfold Hid
    have h := rr
    rw [List.take_of_length_le (by omega), Nat.sub_self, List.replicate_zero, List.append_nil] at h
    exact h
   clear rr
   go_wp2
   go_ret
   exact ⟨rfl, HR.out, kr⟩

end Go.Proofs.YtdipojfngdceoaaGreatDoor

/- The program's root: halves are joined till one digest is left. -/
namespace Go.Proofs.YtdipojfngdceoaaGreatDoor
open Go.RowKit

namespace Dp
/-- The digests of every two neighbours. -/
def join (l : List Int) : List Int := (List.range (l.length / 2)).map fun k => sum (1 :: (two (l.getD (2 * k) 0) ++ two (l.getD (2 * k + 1) 0)))
theorem join_length (l : List Int) : (join l).length = l.length / 2 := by simp [join]
theorem level_getD (cells : List Int) (d k : Nat) (hk : k < 256 / 2 ^ d) : (level cells d).getD k 0 = digest cells (k * 2 ^ d) d := by
 rw [List.getD_eq_getElem?_getD, List.getElem?_eq_getElem (by rw [level_length]; exact hk)]
 simp [level]
theorem join_level (cells : List Int) (d : Nat) (hd : d < 8) : join (level cells d) = level cells (d + 1) := by
 have h2 : 256 / 2 ^ d = 2 * (256 / 2 ^ (d + 1)) := by
  rcases (by omega : d = 0 ∨ d = 1 ∨ d = 2 ∨ d = 3 ∨ d = 4 ∨ d = 5 ∨ d = 6 ∨ d = 7) with rfl | rfl | rfl | rfl | rfl | rfl | rfl | rfl <;> decide
 unfold join
 rw [level_length, h2]
 have e : 2 * (256 / 2 ^ (d + 1)) / 2 = 256 / 2 ^ (d + 1) := by omega
 rw [e]
 conv => rhs; unfold level
 apply List.map_congr_left
 intro k hk
 have hk' : k < 256 / 2 ^ (d + 1) := by simpa using hk
 rw [level_getD cells d (2 * k) (by omega), level_getD cells d (2 * k + 1) (by omega), digest_succ]
 have e1 : 2 * k * 2 ^ d = k * 2 ^ (d + 1) := by rw [Nat.pow_succ, Nat.mul_comm 2 k, Nat.mul_assoc, Nat.mul_comm 2]
 have e2 : (2 * k + 1) * 2 ^ d = k * 2 ^ (d + 1) + 2 ^ d := by rw [Nat.add_mul, e1, Nat.one_mul]
 rw [e1, e2]
theorem level_bd (cells : List Int) (d : Nat) : ∀ x ∈ level cells d, 0 ≤ x ∧ x < 65536 := by
 intro x hx
 simp only [level, List.mem_map] at hx
 obtain ⟨k, _, rfl⟩ := hx
 have := digest_bd cells (k * 2 ^ d) d
 omega
theorem regCells_at {w : World} {g : Nat} {e : TypeId} {l : List Int} (h : Row w g e (regCells l)) (k : Nat) (hk : k < l.length) : w.cell? ⟨g, k, none⟩ = some (.int .i64 (l.getD k 0)) := by
 rw [h.cell]; simp [regCells, hk]
theorem getD_bd {l : List Int} (h : ∀ x ∈ l, 0 ≤ x ∧ x < 65536) (k : Nat) : 0 ≤ l.getD k 0 ∧ l.getD k 0 < 65536 := by
 rw [List.getD_eq_getElem?_getD]
 cases e : l[k]? with
 | none => simp
 | some x => exact h x (List.mem_of_getElem? e)
end Dp

set_option maxRecDepth 100000 in
set_option maxHeartbeats 1000000 in
theorem progJoined (w : World) (g : Nat) (lv : List Int) (n : Nat) (hn : lv.length = n + n) (hn1 : 0 < n ∧ n ≤ 128) (hr : Dp.Row w g 3 (Dp.regCells lv)) (hb : ∀ x ∈ lv, 0 ≤ x ∧ x < 65536) :
  Calls Tryz.prog 75 #[.slice (some ⟨g, 0, none⟩) (n + n) (n + n)] w fun e w' => e = .returned (.slice (some ⟨w.heap.size, 0, none⟩) n n) ∧ Dp.Row w' w.heap.size 3 (Dp.regCells (Dp.join lv)) ∧ Dp.Keeps (fun _ => False) w w' := by
 have hlt := hr.lt
 go_enter Tryz.func75, Tryz.ntmps75
 go_wp2_with (at_make; refine Dp.wpList_make_row _ rfl _ _ 22 rfl 3 (.int .i64 0) 8 Tryz.underlying22 infoInt rfl _ _ _ _ n rfl rfl (by omega) (by omega) (by omega) (by unfold maxLen; omega) ?_)
 intro w1 r1 z1 k1
 have hjl : (Dp.join lv).length = n := by rw [Dp.join_length]; omega
 go_wp2
 go_loopw [4, 11] (fun _ i wr => ∃ k : Nat, k ≤ n ∧ i = .int .i64 k ∧ Dp.Row wr w.heap.size 3 (Dp.regCells ((Dp.join lv).take k) ++ List.replicate (n - k) (.int .i64 0)) ∧ Dp.Keeps (fun _ => False) w wr) (fun _ i _ => n - (intOf i).toNat)
 case atStart => exact ⟨0, Nat.zero_le _, rfl, r1, k1⟩
 case round =>
  obtain ⟨k, hk, rfl, rr, kr⟩ := hrel
  by_cases hk2 : k < n
  ·have hg := hr.keep kr (fun e => e)
   have qa : ∀ wx, Dp.Keeps (fun _ => False) wr wx → wx.cell? ⟨g, 2 * k, none⟩ = some (.int .i64 (lv.getD (2 * k) 0)) := fun wx kx => Dp.regCells_at (hg.keep kx (fun e => e)) (2 * k) (by omega)
   have qb : ∀ wx, Dp.Keeps (fun _ => False) wr wx → wx.cell? ⟨g, 2 * k + 1, none⟩ = some (.int .i64 (lv.getD (2 * k + 1) 0)) := fun wx kx => Dp.regCells_at (hg.keep kx (fun e => e)) (2 * k + 1) (by omega)
   have ha := Dp.getD_bd hb (2 * k)
   have hbb := Dp.getD_bd hb (2 * k + 1)
   have HG : Hid ((Dp.join lv)[k]'(by omega) = Dp.sum (1 :: (Dp.two (lv.getD (2 * k) 0) ++ Dp.two (lv.getD (2 * k + 1) 0)))) := by unfold Hid; simp [Dp.join]
   have HF := Hid.mk_ (Dp.fill_next (Dp.join lv) k (by omega) n hjl)
   generalize lv.getD (2 * k) 0 = xa at *
   generalize lv.getD (2 * k + 1) 0 = xb at *
   have hsb := Dp.sum_bd (1 :: (Dp.two xa ++ Dp.two xb))
   have hS0 : Dp.Keeps (fun _ => False) wr wr.drew := (Dp.Keeps.refl _ _).drew
   have e1 : IntKind.i64.wrap (2 * (k : Int)) = 2 * (k : Int) := IntWalk.i64_in _ (by omega)
   have e2 : IntKind.i64.wrap (2 * (k : Int) + 1) = 2 * (k : Int) + 1 := IntWalk.i64_in _ (by omega)
   have t1 : (2 * (k : Int)).toNat = 2 * k := by omega
   have t2 : (2 * (k : Int) + 1).toNat = 2 * k + 1 := by omega
   have b1 : 0 ≤ 2 * (k : Int) := by omega
   have b2 : 2 * (k : Int) < (n : Int) + (n : Int) := by omega
   have b3 : 0 ≤ 2 * (k : Int) + 1 := by omega
   have b4 : 2 * (k : Int) + 1 < (n : Int) + (n : Int) := by omega
   go_wp2
   refine Dp.wp_region_L (fun wx => Dp.Keeps (fun _ => False) wr wx) 14 mixedP ?_
   refine' Dp.wpAnyL_take 0 rfl (by kernel_rfl) (fun _ _ _ h => h) (by rfl) ?hy0 hS0 ?rest0
   case hy0 => intro wx hSx; go_simp; try with_reducible rfl
   simp only [Act.put, Dp.tks]
   refine' Dp.wpAnyL_take 1 rfl (by kernel_rfl) (fun _ _ _ h => h) (by rfl) ?hy1 hS0 ?rest1
   case hy1 => intro wx hSx; go_simp; try with_reducible rfl
   simp only [Act.put, Dp.tks]
   refine' Dp.wpAnyL_take 2 rfl (by kernel_rfl) (fun _ _ _ h => h) (by rfl) ?hy2 hS0 ?rest2
   case hy2 => intro wx hSx; go_simp; try with_reducible rfl
   simp only [Act.put, Dp.tks]
   refine' Dp.wpAnyL_take 3 rfl (by kernel_rfl) (fun _ _ _ h => h) (by rfl) ?hy3 hS0 ?rest3
   case hy3 => intro wx hSx; go_simp; try with_reducible rfl
   simp only [Act.put, Dp.tks]
   refine' Dp.wpAnyL_take 4 rfl (by kernel_rfl) (fun _ _ _ h => h) (by rfl) ?hy4 hS0 ?rest4
   case hy4 => intro wx hSx; go_simp; try with_reducible rfl
   simp only [Act.put, Dp.tks]
   refine' Dp.wpAnyL_take 5 rfl (by kernel_rfl) (fun _ _ _ h => h) (by rfl) ?hy5 hS0 ?rest5
   case hy5 => intro wx hSx; go_simp; try with_reducible rfl
   simp only [Act.put, Dp.tks]
   refine' Dp.wpAnyL_take 6 rfl (by kernel_rfl) (fun _ _ _ h => h) (by rfl) ?hy6 hS0 ?rest6
   case hy6 => intro wx hSx; go_simp; try with_reducible rfl
   simp only [Act.put, Dp.tks]
   refine' Dp.wpAnyL_take 7 rfl (by kernel_rfl) (fun _ _ _ h => h) (by rfl) ?hy7 hS0 ?rest7
   case hy7 => intro wx hSx; go_simp; try with_reducible rfl
   simp only [Act.put, Dp.tks]
   refine' Dp.wpAnyL_take 8 rfl (by kernel_rfl) (fun _ _ _ h => h) (by rfl) ?hy8 hS0 ?rest8
   case hy8 => intro wx hSx; go_simp; try with_reducible rfl
   simp only [Act.put, Dp.tks]
   refine' Dp.wpAnyL_take 9 rfl (by kernel_rfl) (fun _ _ _ h => h) (by rfl) ?hy9 hS0 ?rest9
   case hy9 => intro wx hSx; go_simp; try with_reducible rfl
   simp only [Act.put, Dp.tks]
   refine' Dp.wpAnyL_take 10 rfl (by kernel_rfl) (fun _ _ _ h => h) (by rfl) ?hy10 hS0 ?rest10
   case hy10 => intro wx hSx; go_simp; try with_reducible rfl
   simp only [Act.put, Dp.tks]
   refine' Dp.wpAnyL_take 11 rfl (by kernel_rfl) (fun _ _ _ h => h) (by rfl) ?hy11 hS0 ?rest11
   case hy11 => intro wx hSx; go_simp; try with_reducible rfl
   simp only [Act.put, Dp.tks]
   refine' Dp.wpAnyL_take 12 rfl (by kernel_rfl) (fun _ _ _ h => h) (by rfl) ?hy12 hS0 ?rest12
   case hy12 => intro wx hSx; go_simp; try with_reducible rfl
   simp only [Act.put, Dp.tks]
   refine Dp.wpAnyL_one 13 rfl (by kernel_rfl) (by rfl) (fun K hK => ?_)
   go_simp
   refine (progHalves xa xb _ ha hbb).mono ?_
   rintro e w3 ⟨rfl, k3⟩
   refine hK _ _ ⟨fun _ => hS0.trans k3, ?_⟩
   clear hK K
   refine Dp.wpAnyL_rest (by kernel_rfl) ?_
   refine Dp.wpAny_tail 14 rfl (by kernel_rfl) ?_
   simp only [List.drop_succ_cons, List.drop_zero]
   have rr3 := (rr.keep hS0 (fun e => e)).keep k3 (fun e => e)
   have c3 : w3.cell? ⟨w.heap.size, k, none⟩ = some (.int .i64 0) := by rw [rr3.cell]; exact Dp.fill_at _ k n hk2 hjl
   have f3 := rr3.frozen k
   have HR3 : Hid (Dp.Row (w3.setCell ⟨w.heap.size, k, none⟩ (.int .i64 (Dp.sum (1 :: (Dp.two xa ++ Dp.two xb))))) w.heap.size 3 (Dp.regCells ((Dp.join lv).take (k + 1)) ++ List.replicate (n - (k + 1)) (.int .i64 0))) := by
    have h := rr3.set k (.int .i64 (Dp.sum (1 :: (Dp.two xa ++ Dp.two xb))))
    rw [← HG.out, HF.out] at h
    rw [← HG.out]; exact h
   have HK3 : Hid (Dp.Keeps (fun _ => False) w (w3.setCell ⟨w.heap.size, k, none⟩ (.int .i64 (Dp.sum (1 :: (Dp.two xa ++ Dp.two xb)))))) := ((kr.trans hS0).trans k3).setCell (p := ⟨w.heap.size, k, none⟩) (.inl (Nat.le_refl _)) _
   generalize Dp.sum (1 :: (Dp.two xa ++ Dp.two xb)) = sx at *
   clear rr rr3 qa qb e1 e2 t1 t2 b1 b2 b3 b4
   go_wp2
   go_roundw
   case rel => exact ⟨k + 1, by omega, by go_num, HR3.out, HK3.out⟩
   case measure => simp [intOf]; omega
  ·obtain rfl : k = n := by omega
   have HR : Hid (Dp.Row wr w.heap.size 3 (Dp.regCells (Dp.join lv))) := by
    unfold Hid
    have h := rr
    rw [List.take_of_length_le (by omega), Nat.sub_self, List.replicate_zero, List.append_nil] at h
    exact h
   clear rr
   go_wp2
   go_ret
   exact ⟨rfl, HR.out, kr⟩

namespace Dp
def lenOf : Value → Nat
 | .slice _ n _ => n
 | _ => 0
theorem level_last (cells : List Int) : level cells 8 = [root cells] := by
 simp [level, root]
theorem pow_half (d : Nat) (hd : d < 8) : 256 / 2 ^ d = 256 / 2 ^ (d + 1) + 256 / 2 ^ (d + 1) ∧ 0 < 256 / 2 ^ (d + 1) ∧ 256 / 2 ^ (d + 1) ≤ 128 := by
 rcases (by omega : d = 0 ∨ d = 1 ∨ d = 2 ∨ d = 3 ∨ d = 4 ∨ d = 5 ∨ d = 6 ∨ d = 7) with rfl | rfl | rfl | rfl | rfl | rfl | rfl | rfl <;> decide
end Dp

set_option maxRecDepth 100000 in
set_option maxHeartbeats 1000000 in
theorem progRoot (w : World) (b o : Nat) (ty : TypeId) (pre post : List Value) (vs : Value) (cells : List Int) (hl : cells.length = 256) (hr : Dp.Row w b ty (pre ++ Dp.memCells vs cells ++ post)) (ho : pre.length = o) (hw : ∀ x ∈ cells, Dp.isWord x) :
  Calls Tryz.prog 50 #[.pointer (some ⟨b, o, none⟩)] w fun e w' => e = .returned (.int .i64 (Dp.root cells)) ∧ Dp.Keeps (fun _ => False) w w' := by
 go_enter Tryz.func50, Tryz.ntmps50
 go_wp2_with fail
 refine (progDigests w b o ty pre post vs cells hl hr ho hw).mono ?_
 rintro e w1 ⟨rfl, r1, k1⟩
 clear hr
 go_wp2
 go_loopw [3] (fun v wr => ∃ d g : Nat, d ≤ 8 ∧ v = .slice (some ⟨g, 0, none⟩) (256 / 2 ^ d) (256 / 2 ^ d) ∧ Dp.Row wr g 3 (Dp.regCells (Dp.level cells d)) ∧ Dp.Keeps (fun _ => False) w wr) (fun v _ => Dp.lenOf v)
 case atStart => exact ⟨0, w.heap.size, Nat.zero_le _, rfl, r1, k1⟩
 case round =>
  obtain ⟨d, g, hd, rfl, rr, kr⟩ := hrel
  by_cases hd8 : d < 8
  ·obtain ⟨h1, h2, h3⟩ := Dp.pow_half d hd8
   have hlev : (Dp.level cells d).length = 256 / 2 ^ (d + 1) + 256 / 2 ^ (d + 1) := by rw [Dp.level_length, h1]
   have HJ := Hid.mk_ (Dp.join_level cells d hd8)
   have HB := Hid.mk_ (Dp.level_bd cells d)
   have HE : Hid (256 / 2 ^ (d + 1) = 256 / 2 ^ (d + 1)) := rfl
   rw [h1]
   generalize hN : 256 / 2 ^ (d + 1) = N at *
   have HN := Hid.mk_ hN
   clear hN h1
   go_wp2_with fail
   refine (progJoined wr g (Dp.level cells d) N hlev ⟨h2, h3⟩ rr HB.out).mono ?_
   rintro e w3 ⟨rfl, r3, k3⟩
   rw [HJ.out] at r3
   go_wp2
   go_roundw
   case rel => exact ⟨d + 1, wr.heap.size, by omega, by rw [HN.out], r3, kr.trans k3⟩
   case measure => simp [Dp.lenOf]; omega
  ·obtain rfl : d = 8 := by omega
   have h1 : 256 / 2 ^ 8 = 1 := rfl
   rw [h1]
   have hc : wr.cell? ⟨g, 0, none⟩ = some (.int .i64 (Dp.root cells)) := by
    rw [rr.cell, Dp.level_last]; rfl
   have hb := Dp.root_bd cells
   clear rr h1
   go_wp2
   go_ret
   exact ⟨rfl, kr⟩

end Go.Proofs.YtdipojfngdceoaaGreatDoor

/- The program's core: the word of the four bytes of a source from a place on. -/
namespace Go.Proofs.YtdipojfngdceoaaGreatDoor
open Go.RowKit

namespace Dp
/-- The first k bytes of the word at a place. -/
def toldN (l : List UInt8) (at_ : Int) : Nat → Int
 | 0 => 0
 | k + 1 => toldN l at_ k * 256 + byteAt l (at_ + k)
theorem told_four (l : List UInt8) (at_ : Int) : toldN l at_ 4 = told l at_ := by
 unfold told
 simp only [toldN, Int.zero_mul, Int.zero_add, Int.ofNat_zero, Int.add_zero]
 simp
theorem toldN_bd (l : List UInt8) (at_ : Int) : ∀ k, 0 ≤ toldN l at_ k ∧ toldN l at_ k < 256 ^ k
 | 0 => by simp [toldN]
 | k + 1 => by
  have h := toldN_bd l at_ k
  have hb := byteAt_bd l (at_ + k)
  have e : (256 : Int) ^ (k + 1) = 256 ^ k * 256 := Int.pow_succ 256 k
  simp only [toldN]
  rw [e]
  generalize (256 : Int) ^ k = q at *
  omega
theorem or_byte (x b : Int) (hx : 0 ≤ x ∧ x < 16777216) (hb : 0 ≤ b ∧ b < 256) : Go.bits .or .u32 (x * 256) b = x * 256 + b := by
 obtain ⟨k, rfl⟩ := Int.eq_ofNat_of_zero_le hx.1
 obtain ⟨j, rfl⟩ := Int.eq_ofNat_of_zero_le hb.1
 have h := (bits_u32_nat (k * 256) j (by omega) (by omega)).2.1
 rw [show ((k * 256 : Nat) : Int) = (k : Int) * 256 by simp] at h
 rw [h]
 have e : k * 256 ||| j = k * 256 + j := by
  have := Nat.two_pow_add_eq_or_of_lt (i := 8) (b := j) (by omega) k
  rw [show (2 : Nat) ^ 8 = 256 from rfl, Nat.mul_comm] at this
  exact this.symm
 rw [e]; simp
end Dp

set_option maxRecDepth 100000 in
set_option maxHeartbeats 1000000 in
theorem progWordAt (v : Value) (l : List UInt8) (place : Int) (w : World) (hv : Dp.Bytes w v l) (hp : Dp.isWord place) :
  Calls Tryz.prog 153 #[v, .int .u32 place] w fun e w' => e = .returned (.int .u32 (Dp.told l place)) ∧ w' = w := by
 obtain ⟨b, o, ad, cap, rfl, hlen, hne, hcells⟩ := hv
 unfold maxLen at hlen
 unfold Dp.isWord at hp
 have HC := Hid.mk_ hcells
 have HN := Hid.mk_ hne
 clear hcells hne
 go_enter Tryz.func153, Tryz.ntmps153
 go_wp2
 go_loop [5, 6, 7, 8] (fun x _ _ i => ∃ k : Nat, k ≤ 4 ∧ i = .int .u64 k ∧ x = .int .u32 (Dp.toldN l place k)) (fun _ _ _ i => 4 - (intOf i).toNat)
 case atStart => exact ⟨0, by omega, rfl, rfl⟩
 case round =>
  obtain ⟨k, hk, rfl, rfl⟩ := hrel
  by_cases hlt : k < 4
  ·have hb := Dp.toldN_bd l place k
   have hb2 : Dp.toldN l place k < 16777216 := by
    have : (256 : Int) ^ k ≤ 16777216 := by
     rcases (by omega : k = 0 ∨ k = 1 ∨ k = 2 ∨ k = 3) with rfl | rfl | rfl | rfl <;> decide
    omega
   have HT : Hid (Dp.toldN l place (k + 1) = Dp.toldN l place k * 256 + Dp.byteAt l (place + k)) := rfl
   by_cases hin : place + k < l.length
   ·have hbb : Dp.byteAt l (place + k) = ((l[(place + k).toNat]'(by omega)).toNat : Int) := by
     unfold Dp.byteAt
     rw [if_pos hin, List.getD_eq_getElem?_getD, List.getElem?_eq_getElem (by omega)]
     rfl
    have had := HN.out (by intro e; simp [e] at hin; omega)
    subst had
    have hc := HC.out (place + k).toNat (by omega)
    rw [← hbb] at hc
    have hby := Dp.byteAt_bd l (place + k)
    have HO := Hid.mk_ (Dp.or_byte (Dp.toldN l place k) (Dp.byteAt l (place + k)) ⟨hb.1, hb2⟩ hby)
    have hb0 := hb.1
    clear hb hbb
    generalize Dp.toldN l place k = t at *
    generalize Dp.byteAt l (place + k) = bt at *
    go_wp2
    go_round
    case rel => exact ⟨k + 1, by omega, by go_num, by rw [HT.out, ← HO.out]⟩
    case measure => simp [intOf]; omega
   ·have hbb : Dp.byteAt l (place + k) = 0 := by unfold Dp.byteAt; rw [if_neg hin]
    have hb0 := hb.1
    rw [hbb] at HT
    clear hb hbb
    generalize Dp.toldN l place k = t at *
    go_wp2
    go_round
    case rel => exact ⟨k + 1, by omega, by go_num, by rw [HT.out]; go_num⟩
    case measure => simp [intOf]; omega
  ·obtain rfl : k = 4 := by omega
   go_wp2
   go_ret
   exact ⟨Dp.ret_int (by rw [Dp.told_four]), rfl⟩

end Go.Proofs.YtdipojfngdceoaaGreatDoor
