/- Steps on the way: ProgRoot, ProgRoot2, ProgParts. -/
import Derived.Test.YtdipojfngdceoabGreatDoorPack04
import Derived.Test.YtdipojfngdceoabGreatDoorPack12
import Derived.Test.YtdipojfngdceoabGreatDoorPack31
import Derived.Test.YtdipojfngdceoabGreatDoorPack32
import Derived.Test.YtdipojfngdceoabGreatDoorPack69
import Derived.Test.YtdipojfngdceoabGreatDoorProg
import Derived.WalkKit
import Derived.WalkSpells
import Derived.WalkLawsBesides
import Derived.Laws.BitsLemmas
/- The program's root: the digests of the single cells. -/
namespace Go.Proofs.YtdipojfngdceoabGreatDoor
open Go.RowKit

namespace Dp
/-- The digests of all that has 2 to the power d cells. -/
def level (cells : List Int) (d : Nat) : List Int := (List.range (256 / 2 ^ d)).map fun k => digest cells (k * 2 ^ d) d
theorem level_length (cells : List Int) (d : Nat) : (level cells d).length = 256 / 2 ^ d := by simp [level]
theorem level_zero_getElem (cells : List Int) (k : Nat) (h : k < (level cells 0).length) : (level cells 0)[k] = sum (0 :: four (cells.getD k 0)) := by
  simp [level, digest]
theorem fill_next (l : List Int) (k : Nat) (hk : k < l.length) (n : Nat) (hn : l.length = n) : (regCells (l.take k) ++ List.replicate (n - k) (Value.int .i64 0)).set k (.int .i64 l[k]) = regCells (l.take (k + 1)) ++ List.replicate (n - (k + 1)) (.int .i64 0) := by
  have h1 : (regCells (l.take k)).length = k := by simp [regCells]; omega
  rw [List.set_append_right _ _ (by omega), h1, Nat.sub_self, List.take_succ_eq_append_getElem hk, show n - k = (n - (k + 1)) + 1 by omega, List.replicate_succ]
  rw [List.set_cons_zero]; unfold regCells; rw [List.map_append, List.append_assoc]; rfl
theorem fill_at (l : List Int) (k : Nat) (n : Nat) (hk : k < n) (hn : l.length = n) : (regCells (l.take k) ++ List.replicate (n - k) (Value.int .i64 0))[k]? = some (.int .i64 0) := by
  have h1 : (regCells (l.take k)).length = k := by simp [regCells]; omega
  rw [List.getElem?_append_right (by omega), h1, Nat.sub_self, show n - k = (n - (k + 1)) + 1 by omega, List.replicate_succ]
  rfl
end Dp
theorem sizeWords : (Tryz.prog.info? 82).map (·.size) = some 256 := by kernel_rfl

set_option maxRecDepth 100000 in
set_option maxHeartbeats 1000000 in
theorem progDigests (w : World) (b o : Nat) (ty : TypeId) (pre post : List Value) (vs : Value) (cells : List Int) (hl : cells.length = 256) (hr : Dp.Row w b ty (pre ++ Dp.memCells vs cells ++ post)) (ho : pre.length = o) (hw : ∀ x ∈ cells, Dp.isWord x) :
    Calls Tryz.prog 66 #[.pointer (some ⟨b, o, none⟩)] w fun e w' => e = .returned (.slice (some ⟨w.heap.size, 0, none⟩) 256 256) ∧ Dp.Row w' w.heap.size 3 (Dp.regCells (Dp.level cells 0)) ∧ Dp.Keeps (fun _ => False) w w' := by
  have hlt := hr.lt
  go_enter Tryz.func66, Tryz.ntmps66
  go_wp2_with (at_make; refine Dp.wpList_make_row _ rfl _ _ 22 rfl 3 (.int .i64 0) 8 Tryz.underlying22 infoInt rfl _ _ _ _ 256 rfl rfl (by omega) (by omega) (by omega) (by simp [maxLen]) ?_)
  intro w1 r1 z1 k1
  have hr1 := hr.keep k1 (fun e => e)
  have HR : Hid (Dp.Row w1 b ty ((pre ++ [vs]) ++ Dp.wordCells cells ++ post)) := by
    unfold Hid; have h := hr1; unfold Dp.memCells at h; simpa using h
  have HL : Hid ((pre ++ [vs]).length = o + 1) := by unfold Hid; simp [ho]
  have HW : Hid ((Dp.wordCells cells).length = 256) := by unfold Hid; simp [Dp.wordCells, hl]
  go_wp2_with (refine Dp.wpList_load_in rfl 82 _ rfl b (o + 1) rfl ty _ _ _ HR.out HL.out _ Tryz.underlying82 rfl (by rw [sizeWords, HW.out]) ?_)
  intro _
  go_wp2
  go_loopw [4, 5, 11] (fun _ _ i wr => ∃ k : Nat, k ≤ 256 ∧ i = .int .i64 k ∧ Dp.Row wr w.heap.size 3 (Dp.regCells ((Dp.level cells 0).take k) ++ List.replicate (256 - k) (.int .i64 0)) ∧ Dp.Keeps (fun _ => False) w wr) (fun _ _ i _ => 256 - (intOf i).toNat)
  case atStart => exact ⟨0, Nat.zero_le _, rfl, r1, k1⟩
  case round =>
    obtain ⟨k, hk, rfl, rr, kr⟩ := hrel
    have hll : (Dp.level cells 0).length = 256 := by rw [Dp.level_length]
    by_cases hk2 : k < 256
    · have hx : (Dp.wordCells cells).toArray[k]? = some (.int .u32 (cells.getD k 0)) := by
        simp [Dp.wordCells, hl, hk2]
      have hwx : Dp.isWord (cells.getD k 0) := by
        rw [List.getD_eq_getElem?_getD, List.getElem?_eq_getElem (by omega)]; exact hw _ (List.getElem_mem _)
      have hidx : ∀ wx, (Instr.index 82 (.agg (Dp.wordCells cells).toArray) (.int .i64 (k : Int))).run Tryz.prog wx = .ok (.int .u32 (cells.getD k 0)) wx := fun wx => Dp.run_index_one wx 82 76 256 _ k _ (by rfl) (by rfl) (by rfl) hk2 hx
      have HG : Hid ((Dp.level cells 0)[k]'(by omega) = Dp.sum (0 :: Dp.four (cells.getD k 0))) := Dp.level_zero_getElem cells k (by omega)
      have HF := Hid.mk_ (Dp.fill_next (Dp.level cells 0) k (by omega) 256 hll)
      have hsb := Dp.sum_bd (0 :: Dp.four (cells.getD k 0))
      generalize cells.getD k 0 = cx at *
      clear HR hx hr hr1 r1
      go_wp2_with fail
      refine (progDCell cx _ hwx).mono ?_
      rintro e w3 ⟨rfl, k3⟩
      have rr3 := rr.keep k3 (fun e => e)
      have c3 : w3.cell? ⟨w.heap.size, k, none⟩ = some (.int .i64 0) := by rw [rr3.cell]; exact Dp.fill_at _ k 256 hk2 hll
      have f3 := rr3.frozen k
      have HR3 : Hid (Dp.Row (w3.setCell ⟨w.heap.size, k, none⟩ (.int .i64 (Dp.sum (0 :: Dp.four cx)))) w.heap.size 3 (Dp.regCells ((Dp.level cells 0).take (k + 1)) ++ List.replicate (256 - (k + 1)) (.int .i64 0))) := by
        have h := rr3.set k (.int .i64 (Dp.sum (0 :: Dp.four cx)))
        rw [← HG.out, HF.out] at h
        rw [← HG.out]; exact h
      have HK3 : Hid (Dp.Keeps (fun _ => False) w (w3.setCell ⟨w.heap.size, k, none⟩ (.int .i64 (Dp.sum (0 :: Dp.four cx))))) := (kr.trans k3).setCell (p := ⟨w.heap.size, k, none⟩) (.inl (Nat.le_refl _)) _
      generalize Dp.sum (0 :: Dp.four cx) = sx at *
      clear rr rr3 hidx
      go_wp2
      go_roundw
      case rel => exact ⟨k + 1, by omega, by go_num, HR3.out, HK3.out⟩
      case measure => simp [intOf]; omega
    · obtain rfl : k = 256 := by omega
      have HR : Hid (Dp.Row wr w.heap.size 3 (Dp.regCells (Dp.level cells 0))) := by
        unfold Hid
        have h := rr
        rw [List.take_of_length_le (by omega), Nat.sub_self, List.replicate_zero, List.append_nil] at h
        exact h
      clear rr
      go_wp2
      go_ret
      exact ⟨rfl, HR.out, kr⟩

end Go.Proofs.YtdipojfngdceoabGreatDoor

/- The program's root: halves are joined till one digest is left. -/
namespace Go.Proofs.YtdipojfngdceoabGreatDoor
open Go.RowKit

namespace Dp
/-- The digests of every two neighbours. -/
def join (l : List Int) : List Int := (List.range (l.length / 2)).map fun k => sum (1 :: (two (l.getD (2 * k) 0) ++ two (l.getD (2 * k + 1) 0)))
theorem join_length (l : List Int) : (join l).length = l.length / 2 := by simp [join]
theorem level_getD (cells : List Int) (d k : Nat) (hk : k < 256 / 2 ^ d) : (level cells d).getD k 0 = digest cells (k * 2 ^ d) d := by
  rw [List.getD_eq_getElem?_getD, List.getElem?_eq_getElem (by rw [level_length]; exact hk)]
  simp [level]
theorem join_level (cells : List Int) (d : Nat) (hd : d < 8) : join (level cells d) = level cells (d + 1) := by
  have h2 : 256 / 2 ^ d = 2 * (256 / 2 ^ (d + 1)) := by
    rcases (by omega : d = 0 ∨ d = 1 ∨ d = 2 ∨ d = 3 ∨ d = 4 ∨ d = 5 ∨ d = 6 ∨ d = 7) with rfl | rfl | rfl | rfl | rfl | rfl | rfl | rfl <;> decide
  unfold join
  rw [level_length, h2]
  have e : 2 * (256 / 2 ^ (d + 1)) / 2 = 256 / 2 ^ (d + 1) := by omega
  rw [e]
  conv => rhs; unfold level
  apply List.map_congr_left
  intro k hk
  have hk' : k < 256 / 2 ^ (d + 1) := by simpa using hk
  rw [level_getD cells d (2 * k) (by omega), level_getD cells d (2 * k + 1) (by omega), digest_succ]
  have e1 : 2 * k * 2 ^ d = k * 2 ^ (d + 1) := by rw [Nat.pow_succ, Nat.mul_comm 2 k, Nat.mul_assoc, Nat.mul_comm 2]
  have e2 : (2 * k + 1) * 2 ^ d = k * 2 ^ (d + 1) + 2 ^ d := by rw [Nat.add_mul, e1, Nat.one_mul]
  rw [e1, e2]
theorem level_bd (cells : List Int) (d : Nat) : ∀ x ∈ level cells d, 0 ≤ x ∧ x < 65536 := by
  intro x hx
  simp only [level, List.mem_map] at hx
  obtain ⟨k, _, rfl⟩ := hx
  have := digest_bd cells (k * 2 ^ d) d
  omega
theorem regCells_at {w : World} {g : Nat} {e : TypeId} {l : List Int} (h : Row w g e (regCells l)) (k : Nat) (hk : k < l.length) : w.cell? ⟨g, k, none⟩ = some (.int .i64 (l.getD k 0)) := by
  rw [h.cell]; simp [regCells, hk]
theorem getD_bd {l : List Int} (h : ∀ x ∈ l, 0 ≤ x ∧ x < 65536) (k : Nat) : 0 ≤ l.getD k 0 ∧ l.getD k 0 < 65536 := by
  rw [List.getD_eq_getElem?_getD]
  cases e : l[k]? with
  | none => simp
  | some x => exact h x (List.mem_of_getElem? e)
end Dp

set_option maxRecDepth 100000 in
set_option maxHeartbeats 1000000 in
theorem progJoined (w : World) (g : Nat) (lv : List Int) (n : Nat) (hn : lv.length = n + n) (hn1 : 0 < n ∧ n ≤ 128) (hr : Dp.Row w g 3 (Dp.regCells lv)) (hb : ∀ x ∈ lv, 0 ≤ x ∧ x < 65536) :
    Calls Tryz.prog 67 #[.slice (some ⟨g, 0, none⟩) (n + n) (n + n)] w fun e w' => e = .returned (.slice (some ⟨w.heap.size, 0, none⟩) n n) ∧ Dp.Row w' w.heap.size 3 (Dp.regCells (Dp.join lv)) ∧ Dp.Keeps (fun _ => False) w w' := by
  have hlt := hr.lt
  go_enter Tryz.func67, Tryz.ntmps67
  go_wp2_with (at_make; refine Dp.wpList_make_row _ rfl _ _ 22 rfl 3 (.int .i64 0) 8 Tryz.underlying22 infoInt rfl _ _ _ _ n rfl rfl (by omega) (by omega) (by omega) (by unfold maxLen; omega) ?_)
  intro w1 r1 z1 k1
  have hjl : (Dp.join lv).length = n := by rw [Dp.join_length]; omega
  go_wp2
  go_loopw [4, 11] (fun _ i wr => ∃ k : Nat, k ≤ n ∧ i = .int .i64 k ∧ Dp.Row wr w.heap.size 3 (Dp.regCells ((Dp.join lv).take k) ++ List.replicate (n - k) (.int .i64 0)) ∧ Dp.Keeps (fun _ => False) w wr) (fun _ i _ => n - (intOf i).toNat)
  case atStart => exact ⟨0, Nat.zero_le _, rfl, r1, k1⟩
  case round =>
    obtain ⟨k, hk, rfl, rr, kr⟩ := hrel
    by_cases hk2 : k < n
    · have hg := hr.keep kr (fun e => e)
      have qa : ∀ wx, Dp.Keeps (fun _ => False) wr wx → wx.cell? ⟨g, 2 * k, none⟩ = some (.int .i64 (lv.getD (2 * k) 0)) := fun wx kx => Dp.regCells_at (hg.keep kx (fun e => e)) (2 * k) (by omega)
      have qb : ∀ wx, Dp.Keeps (fun _ => False) wr wx → wx.cell? ⟨g, 2 * k + 1, none⟩ = some (.int .i64 (lv.getD (2 * k + 1) 0)) := fun wx kx => Dp.regCells_at (hg.keep kx (fun e => e)) (2 * k + 1) (by omega)
      have ha := Dp.getD_bd hb (2 * k)
      have hbb := Dp.getD_bd hb (2 * k + 1)
      have HG : Hid ((Dp.join lv)[k]'(by omega) = Dp.sum (1 :: (Dp.two (lv.getD (2 * k) 0) ++ Dp.two (lv.getD (2 * k + 1) 0)))) := by unfold Hid; simp [Dp.join]
      have HF := Hid.mk_ (Dp.fill_next (Dp.join lv) k (by omega) n hjl)
      generalize lv.getD (2 * k) 0 = xa at *
      generalize lv.getD (2 * k + 1) 0 = xb at *
      have hsb := Dp.sum_bd (1 :: (Dp.two xa ++ Dp.two xb))
      have hS0 : Dp.Keeps (fun _ => False) wr wr.drew := (Dp.Keeps.refl _ _).drew
      have e1 : IntKind.i64.wrap (2 * (k : Int)) = 2 * (k : Int) := IntWalk.i64_in _ (by omega)
      have e2 : IntKind.i64.wrap (2 * (k : Int) + 1) = 2 * (k : Int) + 1 := IntWalk.i64_in _ (by omega)
      have t1 : (2 * (k : Int)).toNat = 2 * k := by omega
      have t2 : (2 * (k : Int) + 1).toNat = 2 * k + 1 := by omega
      have b1 : 0 ≤ 2 * (k : Int) := by omega
      have b2 : 2 * (k : Int) < (n : Int) + (n : Int) := by omega
      have b3 : 0 ≤ 2 * (k : Int) + 1 := by omega
      have b4 : 2 * (k : Int) + 1 < (n : Int) + (n : Int) := by omega
      go_wp2
      refine Dp.wp_region_L (fun wx => Dp.Keeps (fun _ => False) wr wx) 14 mixedP ?_
      refine' Dp.wpAnyL_take 0 rfl (by kernel_rfl) (fun _ _ _ h => h) (by rfl) ?hy0 hS0 ?rest0
      case hy0 => intro wx hSx; go_simp; try with_reducible rfl
      simp only [Act.put, List.getElem_toArray, List.getElem_cons_zero, List.setIfInBounds_toArray, List.set_cons_zero, List.set_cons_succ]
      refine' Dp.wpAnyL_take 1 rfl (by kernel_rfl) (fun _ _ _ h => h) (by rfl) ?hy1 hS0 ?rest1
      case hy1 => intro wx hSx; go_simp; try with_reducible rfl
      simp only [Act.put, List.getElem_toArray, List.getElem_cons_zero, List.getElem_cons_succ, List.setIfInBounds_toArray, List.set_cons_zero, List.set_cons_succ]
      refine' Dp.wpAnyL_take 2 rfl (by kernel_rfl) (fun _ _ _ h => h) (by rfl) ?hy2 hS0 ?rest2
      case hy2 => intro wx hSx; go_simp; try with_reducible rfl
      simp only [Act.put, List.getElem_toArray, List.getElem_cons_zero, List.getElem_cons_succ, List.setIfInBounds_toArray, List.set_cons_zero, List.set_cons_succ]
      refine' Dp.wpAnyL_take 3 rfl (by kernel_rfl) (fun _ _ _ h => h) (by rfl) ?hy3 hS0 ?rest3
      case hy3 => intro wx hSx; go_simp; try with_reducible rfl
      simp only [Act.put, List.getElem_toArray, List.getElem_cons_zero, List.getElem_cons_succ, List.setIfInBounds_toArray, List.set_cons_zero, List.set_cons_succ]
      refine' Dp.wpAnyL_take 4 rfl (by kernel_rfl) (fun _ _ _ h => h) (by rfl) ?hy4 hS0 ?rest4
      case hy4 => intro wx hSx; go_simp; try with_reducible rfl
      simp only [Act.put, List.getElem_toArray, List.getElem_cons_zero, List.getElem_cons_succ, List.setIfInBounds_toArray, List.set_cons_zero, List.set_cons_succ]
      refine' Dp.wpAnyL_take 5 rfl (by kernel_rfl) (fun _ _ _ h => h) (by rfl) ?hy5 hS0 ?rest5
      case hy5 => intro wx hSx; go_simp; try with_reducible rfl
      simp only [Act.put, List.getElem_toArray, List.getElem_cons_zero, List.getElem_cons_succ, List.setIfInBounds_toArray, List.set_cons_zero, List.set_cons_succ]
      refine' Dp.wpAnyL_take 6 rfl (by kernel_rfl) (fun _ _ _ h => h) (by rfl) ?hy6 hS0 ?rest6
      case hy6 => intro wx hSx; go_simp; try with_reducible rfl
      simp only [Act.put, List.getElem_toArray, List.getElem_cons_zero, List.getElem_cons_succ, List.setIfInBounds_toArray, List.set_cons_zero, List.set_cons_succ]
      refine' Dp.wpAnyL_take 7 rfl (by kernel_rfl) (fun _ _ _ h => h) (by rfl) ?hy7 hS0 ?rest7
      case hy7 => intro wx hSx; go_simp; try with_reducible rfl
      simp only [Act.put, List.getElem_toArray, List.getElem_cons_zero, List.getElem_cons_succ, List.setIfInBounds_toArray, List.set_cons_zero, List.set_cons_succ]
      refine' Dp.wpAnyL_take 8 rfl (by kernel_rfl) (fun _ _ _ h => h) (by rfl) ?hy8 hS0 ?rest8
      case hy8 => intro wx hSx; go_simp; try with_reducible rfl
      simp only [Act.put, List.getElem_toArray, List.getElem_cons_zero, List.getElem_cons_succ, List.setIfInBounds_toArray, List.set_cons_zero, List.set_cons_succ]
      refine' Dp.wpAnyL_take 9 rfl (by kernel_rfl) (fun _ _ _ h => h) (by rfl) ?hy9 hS0 ?rest9
      case hy9 => intro wx hSx; go_simp; try with_reducible rfl
      simp only [Act.put, List.getElem_toArray, List.getElem_cons_zero, List.getElem_cons_succ, List.setIfInBounds_toArray, List.set_cons_zero, List.set_cons_succ]
      refine' Dp.wpAnyL_take 10 rfl (by kernel_rfl) (fun _ _ _ h => h) (by rfl) ?hy10 hS0 ?rest10
      case hy10 => intro wx hSx; go_simp; try with_reducible rfl
      simp only [Act.put, List.getElem_toArray, List.getElem_cons_zero, List.getElem_cons_succ, List.setIfInBounds_toArray, List.set_cons_zero, List.set_cons_succ]
      refine' Dp.wpAnyL_take 11 rfl (by kernel_rfl) (fun _ _ _ h => h) (by rfl) ?hy11 hS0 ?rest11
      case hy11 => intro wx hSx; go_simp; try with_reducible rfl
      simp only [Act.put, List.getElem_toArray, List.getElem_cons_zero, List.getElem_cons_succ, List.setIfInBounds_toArray, List.set_cons_zero, List.set_cons_succ]
      refine' Dp.wpAnyL_take 12 rfl (by kernel_rfl) (fun _ _ _ h => h) (by rfl) ?hy12 hS0 ?rest12
      case hy12 => intro wx hSx; go_simp; try with_reducible rfl
      simp only [Act.put, List.getElem_toArray, List.getElem_cons_zero, List.getElem_cons_succ, List.setIfInBounds_toArray, List.set_cons_zero, List.set_cons_succ]
      refine Dp.wpAnyL_one 13 rfl (by kernel_rfl) (by rfl) (fun K hK => ?_)
      go_simp
      refine (progHalves xa xb _ ha hbb).mono ?_
      rintro e w3 ⟨rfl, k3⟩
      refine hK _ _ ⟨fun _ => hS0.trans k3, ?_⟩
      clear hK K
      refine Dp.wpAnyL_rest (by kernel_rfl) ?_
      refine Dp.wpAny_tail 14 rfl (by kernel_rfl) ?_
      simp only [List.drop_succ_cons, List.drop_zero]
      have rr3 := (rr.keep hS0 (fun e => e)).keep k3 (fun e => e)
      have c3 : w3.cell? ⟨w.heap.size, k, none⟩ = some (.int .i64 0) := by rw [rr3.cell]; exact Dp.fill_at _ k n hk2 hjl
      have f3 := rr3.frozen k
      have HR3 : Hid (Dp.Row (w3.setCell ⟨w.heap.size, k, none⟩ (.int .i64 (Dp.sum (1 :: (Dp.two xa ++ Dp.two xb))))) w.heap.size 3 (Dp.regCells ((Dp.join lv).take (k + 1)) ++ List.replicate (n - (k + 1)) (.int .i64 0))) := by
        have h := rr3.set k (.int .i64 (Dp.sum (1 :: (Dp.two xa ++ Dp.two xb))))
        rw [← HG.out, HF.out] at h
        rw [← HG.out]; exact h
      have HK3 : Hid (Dp.Keeps (fun _ => False) w (w3.setCell ⟨w.heap.size, k, none⟩ (.int .i64 (Dp.sum (1 :: (Dp.two xa ++ Dp.two xb)))))) := ((kr.trans hS0).trans k3).setCell (p := ⟨w.heap.size, k, none⟩) (.inl (Nat.le_refl _)) _
      generalize Dp.sum (1 :: (Dp.two xa ++ Dp.two xb)) = sx at *
      clear rr rr3 qa qb e1 e2 t1 t2 b1 b2 b3 b4
      go_wp2
      go_roundw
      case rel => exact ⟨k + 1, by omega, by go_num, HR3.out, HK3.out⟩
      case measure => simp [intOf]; omega
    · obtain rfl : k = n := by omega
      have HR : Hid (Dp.Row wr w.heap.size 3 (Dp.regCells (Dp.join lv))) := by
        unfold Hid
        have h := rr
        rw [List.take_of_length_le (by omega), Nat.sub_self, List.replicate_zero, List.append_nil] at h
        exact h
      clear rr
      go_wp2
      go_ret
      exact ⟨rfl, HR.out, kr⟩

namespace Dp
def lenOf : Value → Nat
  | .slice _ n _ => n
  | _ => 0
theorem level_last (cells : List Int) : level cells 8 = [root cells] := by
  simp [level, root]
theorem pow_half (d : Nat) (hd : d < 8) : 256 / 2 ^ d = 256 / 2 ^ (d + 1) + 256 / 2 ^ (d + 1) ∧ 0 < 256 / 2 ^ (d + 1) ∧ 256 / 2 ^ (d + 1) ≤ 128 := by
  rcases (by omega : d = 0 ∨ d = 1 ∨ d = 2 ∨ d = 3 ∨ d = 4 ∨ d = 5 ∨ d = 6 ∨ d = 7) with rfl | rfl | rfl | rfl | rfl | rfl | rfl | rfl <;> decide
end Dp

set_option maxRecDepth 100000 in
set_option maxHeartbeats 1000000 in
theorem progRoot (w : World) (b o : Nat) (ty : TypeId) (pre post : List Value) (vs : Value) (cells : List Int) (hl : cells.length = 256) (hr : Dp.Row w b ty (pre ++ Dp.memCells vs cells ++ post)) (ho : pre.length = o) (hw : ∀ x ∈ cells, Dp.isWord x) :
    Calls Tryz.prog 41 #[.pointer (some ⟨b, o, none⟩)] w fun e w' => e = .returned (.int .i64 (Dp.root cells)) ∧ Dp.Keeps (fun _ => False) w w' := by
  go_enter Tryz.func41, Tryz.ntmps41
  go_wp2_with fail
  refine (progDigests w b o ty pre post vs cells hl hr ho hw).mono ?_
  rintro e w1 ⟨rfl, r1, k1⟩
  clear hr
  go_wp2
  go_loopw [3] (fun v wr => ∃ d g : Nat, d ≤ 8 ∧ v = .slice (some ⟨g, 0, none⟩) (256 / 2 ^ d) (256 / 2 ^ d) ∧ Dp.Row wr g 3 (Dp.regCells (Dp.level cells d)) ∧ Dp.Keeps (fun _ => False) w wr) (fun v _ => Dp.lenOf v)
  case atStart => exact ⟨0, w.heap.size, Nat.zero_le _, rfl, r1, k1⟩
  case round =>
    obtain ⟨d, g, hd, rfl, rr, kr⟩ := hrel
    by_cases hd8 : d < 8
    · obtain ⟨h1, h2, h3⟩ := Dp.pow_half d hd8
      have hlev : (Dp.level cells d).length = 256 / 2 ^ (d + 1) + 256 / 2 ^ (d + 1) := by rw [Dp.level_length, h1]
      have HJ := Hid.mk_ (Dp.join_level cells d hd8)
      have HB := Hid.mk_ (Dp.level_bd cells d)
      have HE : Hid (256 / 2 ^ (d + 1) = 256 / 2 ^ (d + 1)) := rfl
      rw [h1]
      generalize hN : 256 / 2 ^ (d + 1) = N at *
      have HN := Hid.mk_ hN
      clear hN h1
      go_wp2_with fail
      refine (progJoined wr g (Dp.level cells d) N hlev ⟨h2, h3⟩ rr HB.out).mono ?_
      rintro e w3 ⟨rfl, r3, k3⟩
      rw [HJ.out] at r3
      go_wp2
      go_roundw
      case rel => exact ⟨d + 1, wr.heap.size, by omega, by rw [HN.out], r3, kr.trans k3⟩
      case measure => simp [Dp.lenOf]; omega
    · obtain rfl : d = 8 := by omega
      have h1 : 256 / 2 ^ 8 = 1 := rfl
      rw [h1]
      have hc : wr.cell? ⟨g, 0, none⟩ = some (.int .i64 (Dp.root cells)) := by
        rw [rr.cell, Dp.level_last]; rfl
      have hb := Dp.root_bd cells
      clear rr h1
      go_wp2
      go_ret
      exact ⟨rfl, kr⟩

end Go.Proofs.YtdipojfngdceoabGreatDoor

/- The program's parts of a witness: what is cut off, and what is given up. -/
namespace Go.Proofs.YtdipojfngdceoabGreatDoor
open Go.RowKit

namespace Dp
/-- The slice value v has just these bytes, and room for them. -/
def Cutting (w : World) (v : Value) (l : List UInt8) : Prop :=
  ∃ ad cap, v = .slice ad l.length cap ∧ l.length ≤ cap ∧ cap ≤ maxLen ∧ (l ≠ [] → ∃ b o, ad = some ⟨b, o, none⟩ ∧ ∀ j (h : j < l.length), w.cell? ⟨b, o + j, none⟩ = some (.int .u8 (l[j].toNat : Int)))
theorem Cutting.bytes {w : World} {v : Value} {l : List UInt8} (h : Cutting w v l) : Bytes w v l := by
  obtain ⟨ad, cap, h1, h2, h3, h4⟩ := h
  by_cases he : l = []
  · subst he
    exact ⟨0, 0, ad, cap, h1, by omega, fun e => absurd rfl e, fun j hj => absurd hj (Nat.not_lt_zero _)⟩
  · obtain ⟨b, o, h5, h6⟩ := h4 he
    exact ⟨b, o, ad, cap, h1, by omega, fun _ => h5, h6⟩
theorem Cutting.still {w w' : World} {v : Value} {l : List UInt8} (h : Cutting w v l) (k : Keeps (fun _ => False) w w') : Cutting w' v l := by
  obtain ⟨ad, cap, h1, h2, h3, h4⟩ := h
  refine ⟨ad, cap, h1, h2, h3, fun he => ?_⟩
  obtain ⟨b, o, h5, h6⟩ := h4 he
  exact ⟨b, o, h5, fun j hj => (k.cell (p := ⟨b, o + j, none⟩) (cell_lt (h6 j hj)) (fun e => e)).trans (h6 j hj)⟩
theorem Cutting.take {w : World} {ad : Option Addr} {cap : Nat} {l : List UInt8} (n : Nat) (hn : n ≤ l.length) (h : Cutting w (.slice ad l.length cap) l) (ad' : Option Addr) (ha : n ≠ 0 → ad' = ad.map (·.add 0)) : Cutting w (.slice ad' n n) (l.take n) := by
  obtain ⟨ad0, cap0, h1, h2, h3, h4⟩ := h
  simp only [Value.slice.injEq, true_and] at h1
  obtain ⟨rfl, rfl⟩ := h1
  have hl : (l.take n).length = n := by rw [List.length_take]; omega
  refine ⟨ad', n, by rw [hl], by omega, by omega, fun he => ?_⟩
  have hn0 : n ≠ 0 := by rintro rfl; simp at he
  obtain ⟨b, o, h5, h6⟩ := h4 (by rintro rfl; simp at he)
  refine ⟨b, o, ?_, fun j hj => ?_⟩
  · rw [ha hn0, h5]; simp [Addr.add]
  · rw [hl] at hj
    have := h6 j (by omega)
    rw [this]; simp
theorem Cutting.drop {w : World} {ad : Option Addr} {cap : Nat} {l : List UInt8} (n : Nat) (hn : n ≤ l.length) (h : Cutting w (.slice ad l.length cap) l) (ad' : Option Addr) (ha : n ≠ cap → ad' = ad.map (·.add n)) : Cutting w (.slice ad' (l.length - n) (cap - n)) (l.drop n) := by
  obtain ⟨ad0, cap0, h1, h2, h3, h4⟩ := h
  simp only [Value.slice.injEq, true_and] at h1
  obtain ⟨rfl, rfl⟩ := h1
  have hl : (l.drop n).length = l.length - n := List.length_drop
  refine ⟨ad', cap - n, by rw [hl], by omega, by omega, fun he => ?_⟩
  have hn0 : n < l.length := by
    rcases Nat.lt_or_ge n l.length with h | h
    · exact h
    · exact absurd (List.drop_eq_nil_of_le h) he
  obtain ⟨b, o, h5, h6⟩ := h4 (by rintro rfl; simp at hn0)
  refine ⟨b, o + n, ?_, fun j hj => ?_⟩
  · rw [ha (by omega), h5]
    simp [Addr.add]
  · rw [hl] at hj
    have := h6 (n + j) (by omega)
    rw [Nat.add_assoc, this]; simp
/-- What is left of the witness, as the parts at block p have it; w0: the world behind which they are new. -/
structure PartsAt (w0 : World) (p : Nat) (w : World) (l : List UInt8) : Prop where
  new : w0.heap.size ≤ p
  row : ∃ v, Row w p 174 [v] ∧ Cutting w0 v l
  kept : Keeps (fun _ => False) w0 w
theorem PartsAt.keep {S : Nat → Prop} {w0 w w' : World} {p : Nat} {l : List UInt8} (h : PartsAt w0 p w l) (k : Keeps S w w') (hp : ¬ S p) (hS : ∀ i, i < w0.heap.size → ¬ S i) : PartsAt w0 p w' l := by
  obtain ⟨v, h1, h2⟩ := h.row
  exact ⟨h.new, ⟨v, h1.keep k hp, h2⟩, h.kept.next k (fun i hi s => hS i hi s)⟩
/-- The panic that gives a witness up. -/
def wrong (eb : Addr) : List PanicEntry := [{ v := .iface 196 (.pointer (some eb)), recovered := false }]
/-- The variable ErrWrong holds the error at block eb. -/
def ErrAt (w : World) (eb : Addr) : Prop := w.cell? ⟨0, 0, none⟩ = some (.iface 196 (.pointer (some eb)))
theorem ErrAt.keep {w w' : World} {eb : Addr} (h : ErrAt w eb) (k : Keeps (fun _ => False) w w') : ErrAt w' eb := (k.cell (p := ⟨0, 0, none⟩) (cell_lt h) (fun e => e)).trans h
end Dp

set_option maxRecDepth 100000 in
set_option maxHeartbeats 400000 in
theorem progReqT (x : Value) (w : World) :
    Calls Tryz.prog 98 #[x, .bool true] w fun e w' => e = .returned (.tuple #[]) ∧ w' = w := by
  go_enter Tryz.func98, Tryz.ntmps98
  go_wp2
  go_end0
  exact ⟨rfl, rfl⟩

set_option maxRecDepth 100000 in
set_option maxHeartbeats 400000 in
theorem progReqF (x : Value) (eb : Addr) (w : World) (he : Dp.ErrAt w eb) :
    Calls Tryz.prog 98 #[x, .bool false] w fun e w' => e = .panicked (Dp.wrong eb) ∧ w' = w := by
  unfold Dp.ErrAt at he
  go_enter Tryz.func98, Tryz.ntmps98
  go_wp2
  exact ⟨rfl, rfl, rfl⟩

set_option maxRecDepth 100000 in
set_option maxHeartbeats 400000 in
theorem progOf (ad : Option Addr) (n cap : Nat) (w : World) :
    Calls Tryz.prog 71 #[.slice ad n cap] w fun e w' => e = .returned (.pointer (some ⟨w.heap.size, 0, none⟩)) ∧ Dp.Row w' w.heap.size 174 [.slice ad n cap] ∧ w'.heap.size = w.heap.size + 1 ∧ Dp.Keeps (fun _ => False) w w' := by
  go_enter Tryz.func71, Tryz.ntmps71
  go_wp2
  go_ret
  exact ⟨rfl, Dp.Row.allocNew w 174 [.slice ad n cap], by simp, (Dp.Keeps.refl _ _).alloc _⟩

set_option maxRecDepth 100000 in
set_option maxHeartbeats 400000 in
theorem progCut (w0 : World) (p : Nat) (eb : Addr) (n : Nat) (l : List UInt8) (w : World) (he : Dp.ErrAt w0 eb) (h : Dp.PartsAt w0 p w l) (hn : n ≤ 16777216) :
    Calls Tryz.prog 142 #[.pointer (some ⟨p, 0, none⟩), .int .i64 n] w fun e w' => Dp.after (if n ≤ l.length then some () else none) (e = .panicked (Dp.wrong eb) ∧ w' = w) fun _ => ∃ v, e = .returned v ∧ Dp.Cutting w0 v (l.take n) ∧ Dp.PartsAt w0 p w' (l.drop n) ∧ Dp.Keeps (fun k => k = p) w w' ∧ w'.heap.size = w.heap.size := by
  have he' := he.keep h.kept
  obtain ⟨v, hr, hc⟩ := h.row
  have hcc := hc
  obtain ⟨ad, cap, rfl, h2, h3, _⟩ := hc
  have c0 := hr.cellAt 0 (by simp)
  have f0 := hr.frozen 0
  simp only [List.getElem_cons_zero] at c0
  have HH := Hid.mk_ h
  unfold maxLen at h3
  by_cases hle : n ≤ l.length
  · have HT : Hid (∀ ad', (n ≠ 0 → ad' = ad.map (·.add 0)) → Dp.Cutting w0 (.slice ad' n n) (l.take n)) := fun ad' h => Dp.Cutting.take n hle hcc ad' h
    have HD : Hid (∀ ad', (n ≠ cap → ad' = ad.map (·.add n)) → Dp.Cutting w0 (.slice ad' (l.length - n) (cap - n)) (l.drop n)) := fun ad' h => Dp.Cutting.drop n hle hcc ad' h
    have g1 : (n : Int) ≤ (l.length : Int) := by omega
    have g2 : (n : Int) ≤ (cap : Int) := by omega
    have HR := Hid.mk_ hr
    clear hr h hcc
    by_cases hcap : cap = n
    · subst hcap
      go_enter Tryz.func142, Tryz.ntmps142
      go_wp2_with fail
      refine (progReqT _ _).mono ?_
      rintro e w1 ⟨rfl, rfl⟩
      go_wp2
      go_ret
      rw [Dp.after_some]
      refine ⟨_, rfl, HT.out _ (fun _ => by cases ad <;> simp [Addr.add]), ⟨HH.out.new, ⟨_, HR.out.set 0 _, ?_⟩, HH.out.kept.setCell (.inl HH.out.new) _⟩, Dp.Keeps.setCell (S := fun k => k = p) (p := ⟨p, 0, none⟩) (Dp.Keeps.refl _ _) (.inr rfl) _, by simp⟩
      have := HD.out ad (fun e => absurd rfl e)
      rw [Nat.sub_self, show l.length - cap = 0 by omega] at this
      exact this
    · go_enter Tryz.func142, Tryz.ntmps142
      go_wp2_with fail
      refine (progReqT _ _).mono ?_
      rintro e w1 ⟨rfl, rfl⟩
      go_wp2
      go_ret
      rw [Dp.after_some]
      exact ⟨_, rfl, HT.out _ (fun _ => by cases ad <;> simp [Addr.add]), ⟨HH.out.new, ⟨_, HR.out.set 0 _, HD.out _ (fun _ => by cases ad <;> simp [Addr.add])⟩, HH.out.kept.setCell (.inl HH.out.new) _⟩, Dp.Keeps.setCell (S := fun k => k = p) (p := ⟨p, 0, none⟩) (Dp.Keeps.refl _ _) (.inr rfl) _, by simp⟩
  · go_enter Tryz.func142, Tryz.ntmps142
    go_wp2_with fail
    refine (progReqF _ eb _ he').mono ?_
    rintro e w1 ⟨rfl, rfl⟩
    exact ⟨rfl, by rw [if_neg hle]; exact ⟨rfl, rfl⟩⟩

set_option maxRecDepth 100000 in
set_option maxHeartbeats 400000 in
theorem progQByte (w0 : World) (p : Nat) (eb : Addr) (l : List UInt8) (w : World) (he : Dp.ErrAt w0 eb) (h : Dp.PartsAt w0 p w l) :
    Calls Tryz.prog 136 #[.pointer (some ⟨p, 0, none⟩)] w fun e w' => Dp.after (if 1 ≤ l.length then some () else none) (e = .panicked (Dp.wrong eb) ∧ w' = w) fun _ => e = .returned (.int .u8 ((l.getD 0 0).toNat : Int)) ∧ Dp.PartsAt w0 p w' (l.drop 1) ∧ Dp.Keeps (fun k => k = p) w w' ∧ w'.heap.size = w.heap.size := by
  go_enter Tryz.func136, Tryz.ntmps136
  go_wp2_with fail
  refine (progCut w0 p eb 1 l _ he h (by omega)).mono ?_
  intro e w1 h1
  by_cases hle : 1 ≤ l.length
  · rw [if_pos hle, Dp.after_some] at h1
    obtain ⟨v, rfl, hc, hp1, k1, z1⟩ := h1
    obtain ⟨ad, cap, rfl, h2, h3, h4⟩ := hc
    have hl1 : (l.take 1).length = 1 := by rw [List.length_take]; omega
    obtain ⟨b, o, rfl, h6⟩ := h4 (by intro e; rw [e] at hl1; simp at hl1)
    have hcell := h6 0 (by omega)
    have hk := (hp1.kept.cell (p := ⟨b, o + 0, none⟩) (Dp.cell_lt hcell) (fun e => e)).trans hcell
    have hv : (l.take 1)[0]'(by omega) = l.getD 0 0 := by simp [List.getD_eq_getElem?_getD, List.getElem?_eq_getElem hle]
    rw [hv, Nat.add_zero] at hk
    rw [hl1]
    clear hcell h6 h4 h hv
    have HP := Hid.mk_ hp1
    clear hp1
    go_wp2
    go_ret
    rw [Dp.after_some]
    exact ⟨rfl, by have := HP.out; rwa [List.drop_one] at this, k1, z1⟩
  · rw [if_neg hle, Dp.after_none] at h1
    obtain ⟨rfl, rfl⟩ := h1
    exact ⟨rfl, by rw [if_neg hle]; exact ⟨rfl, rfl⟩⟩

namespace Dp
theorem numTo_two_of (l : List UInt8) : numTo l 0 2 = ((l.getD 0 0).toNat : Int) * 256 + ((l.getD 1 0).toNat : Int) := by
  simp [numTo]
theorem or_i64 (x b : Int) (hx : 0 ≤ x ∧ x < 256) (hb : 0 ≤ b ∧ b < 256) : Go.bits .or .i64 (x * 256) b = x * 256 + b := by
  obtain ⟨k, rfl⟩ := Int.eq_ofNat_of_zero_le hx.1
  obtain ⟨j, rfl⟩ := Int.eq_ofNat_of_zero_le hb.1
  have h := (bits_nat .i64 32 (by decide) (fun n h0 h1 => by rw [IntKind.wrap_i64]; omega) (k * 256) j (by omega) (by omega)).2
  rw [show ((k * 256 : Nat) : Int) = (k : Int) * 256 by simp] at h
  rw [h]
  have e : k * 256 ||| j = k * 256 + j := by
    have := Nat.two_pow_add_eq_or_of_lt (i := 8) (b := j) (by omega) k
    rw [show (2 : Nat) ^ 8 = 256 from rfl, Nat.mul_comm] at this
    exact this.symm
  rw [e]; simp
theorem or_u32 (x b : Int) (hx : 0 ≤ x ∧ x < 65536) (hb : 0 ≤ b ∧ b < 65536) : Go.bits .or .u32 (x * 65536) b = x * 65536 + b := by
  obtain ⟨k, rfl⟩ := Int.eq_ofNat_of_zero_le hx.1
  obtain ⟨j, rfl⟩ := Int.eq_ofNat_of_zero_le hb.1
  have h := (bits_u32_nat (k * 65536) j (by omega) (by omega)).2.1
  rw [show ((k * 65536 : Nat) : Int) = (k : Int) * 65536 by simp] at h
  rw [h]
  have e : k * 65536 ||| j = k * 65536 + j := by
    have := Nat.two_pow_add_eq_or_of_lt (i := 16) (b := j) (by omega) k
    rw [show (2 : Nat) ^ 16 = 65536 from rfl, Nat.mul_comm] at this
    exact this.symm
  rw [e]; simp
theorem numTo_drop (l : List UInt8) (k a : Nat) : ∀ n, numTo (l.drop k) a n = numTo l (k + a) n
  | 0 => rfl
  | n + 1 => by
    unfold numTo
    rw [numTo_drop l k a n]
    simp only [List.getD_eq_getElem?_getD, List.getElem?_drop, Nat.add_assoc]
theorem numTo_four_of (l : List UInt8) : numTo l 0 4 = numTo l 0 2 * 65536 + numTo (l.drop 2) 0 2 := by
  rw [numTo_drop]
  unfold numTo numTo numTo numTo
  simp [numTo]
  omega
theorem two_lt (l : List UInt8) : 0 ≤ numTo l 0 2 ∧ numTo l 0 2 < 65536 := by
  rw [numTo_two_of]
  have h0 := (l.getD 0 0).toNat_lt
  have h1 := (l.getD 1 0).toNat_lt
  omega
end Dp

set_option maxRecDepth 100000 in
set_option maxHeartbeats 400000 in
theorem progQTwo (w0 : World) (p : Nat) (eb : Addr) (l : List UInt8) (w : World) (he : Dp.ErrAt w0 eb) (h : Dp.PartsAt w0 p w l) :
    Calls Tryz.prog 137 #[.pointer (some ⟨p, 0, none⟩)] w fun e w' => Dp.after (if 2 ≤ l.length then some () else none) (e = .panicked (Dp.wrong eb) ∧ w' = w) fun _ => e = .returned (.int .i64 (Dp.numTo l 0 2)) ∧ Dp.PartsAt w0 p w' (l.drop 2) ∧ Dp.Keeps (fun k => k = p) w w' ∧ w'.heap.size = w.heap.size := by
  go_enter Tryz.func137, Tryz.ntmps137
  go_wp2_with fail
  refine (progCut w0 p eb 2 l _ he h (by omega)).mono ?_
  intro e w1 h1
  by_cases hle : 2 ≤ l.length
  · rw [if_pos hle, Dp.after_some] at h1
    obtain ⟨v, rfl, hc, hp1, k1, z1⟩ := h1
    obtain ⟨ad, cap, rfl, h2, h3, h4⟩ := hc
    have hl1 : (l.take 2).length = 2 := by rw [List.length_take]; omega
    obtain ⟨b, o, rfl, h6⟩ := h4 (by intro e; rw [e] at hl1; simp at hl1)
    have hc0 := h6 0 (by omega)
    have hc1 := h6 1 (by omega)
    have hk0 := (hp1.kept.cell (p := ⟨b, o + 0, none⟩) (Dp.cell_lt hc0) (fun e => e)).trans hc0
    have hk1 := (hp1.kept.cell (p := ⟨b, o + 1, none⟩) (Dp.cell_lt hc1) (fun e => e)).trans hc1
    have hv0 : (l.take 2)[0]'(by omega) = l.getD 0 0 := by simp [List.getD_eq_getElem?_getD, List.getElem?_eq_getElem (show 0 < l.length by omega)]
    have hv1 : (l.take 2)[1]'(by omega) = l.getD 1 0 := by simp [List.getD_eq_getElem?_getD, List.getElem?_eq_getElem (show 1 < l.length by omega)]
    rw [hv0, Nat.add_zero] at hk0
    rw [hv1] at hk1
    rw [hl1]
    clear hc0 hc1 h6 h4 h hv0 hv1
    have HP := Hid.mk_ hp1
    clear hp1
    have HN := Hid.mk_ (Dp.numTo_two_of l)
    have b0 := (l.getD 0 0).toNat_lt
    have b1 := (l.getD 1 0).toNat_lt
    generalize (l.getD 0 0).toNat = B0 at *
    generalize (l.getD 1 0).toNat = B1 at *
    go_wp2
    go_region
    go_wp2
    go_ret
    rw [Dp.after_some]
    refine ⟨Dp.ret_int ?_, HP.out.keep (S := fun _ => False) ((Dp.Keeps.refl _ _).drew) (fun e => e) (fun _ _ e => e), k1.drew, z1⟩
    rw [HN.out]
    exact Dp.or_i64 _ _ (by omega) (by omega)
  · rw [if_neg hle, Dp.after_none] at h1
    obtain ⟨rfl, rfl⟩ := h1
    exact ⟨rfl, by rw [if_neg hle]; exact ⟨rfl, rfl⟩⟩

set_option maxRecDepth 100000 in
set_option maxHeartbeats 400000 in
theorem progQWord (w0 : World) (p : Nat) (eb : Addr) (l : List UInt8) (w : World) (he : Dp.ErrAt w0 eb) (h : Dp.PartsAt w0 p w l) :
    Calls Tryz.prog 135 #[.pointer (some ⟨p, 0, none⟩)] w fun e w' => Dp.after (if 4 ≤ l.length then some () else none) (e = .panicked (Dp.wrong eb) ∧ Dp.Keeps (fun _ => False) w0 w') fun _ => e = .returned (.int .u32 (Dp.numTo l 0 4)) ∧ Dp.PartsAt w0 p w' (l.drop 4) ∧ Dp.Keeps (fun k => k = p) w w' ∧ w'.heap.size = w.heap.size := by
  go_enter Tryz.func135, Tryz.ntmps135
  go_wp2_with fail
  refine (progQTwo w0 p eb l _ he h).mono ?_
  intro e w1 h1
  by_cases h2 : 2 ≤ l.length
  · rw [if_pos h2, Dp.after_some] at h1
    obtain ⟨rfl, hp1, k1, z1⟩ := h1
    have b0 := Dp.two_lt l
    have b1 := Dp.two_lt (l.drop 2)
    have HF := Hid.mk_ (Dp.numTo_four_of l)
    clear h
    generalize Dp.numTo l 0 2 = A at *
    go_wp2_with fail
    refine (progQTwo w0 p eb (l.drop 2) _ he hp1).mono ?_
    intro e w2 h1
    have hl : (l.drop 2).length = l.length - 2 := List.length_drop
    by_cases h4 : 4 ≤ l.length
    · rw [if_pos (by omega), Dp.after_some] at h1
      obtain ⟨rfl, hp2, k2, z2⟩ := h1
      generalize Dp.numTo (l.drop 2) 0 2 = B at *
      have HP : Hid (Dp.PartsAt w0 p w2 (l.drop 4)) := by
        have := hp2
        rw [List.drop_drop] at this
        exact this
      clear hp1 hp2 hl
      have hw1 : IntKind.u32.wrap (A * 65536) = A * 65536 := by rw [IntKind.wrap_u32]; omega
      go_wp2
      go_ret
      rw [Dp.after_some]
      refine ⟨?_, HP.out, k1.trans k2, z2.trans z1⟩
      rw [HF.out]
      exact congrArg (fun x => Ending.returned (Value.int .u32 x)) (Dp.or_u32 _ _ (by omega) (by omega))
    · rw [if_neg (by omega), Dp.after_none] at h1
      obtain ⟨rfl, rfl⟩ := h1
      exact ⟨rfl, by rw [if_neg h4]; exact ⟨rfl, hp1.kept⟩⟩
  · rw [if_neg h2, Dp.after_none] at h1
    obtain ⟨rfl, rfl⟩ := h1
    exact ⟨rfl, by rw [if_neg (by omega)]; exact ⟨rfl, h.kept⟩⟩

set_option maxRecDepth 100000 in
set_option maxHeartbeats 400000 in
theorem progQEnd (w0 : World) (p : Nat) (eb : Addr) (l : List UInt8) (w : World) (he : Dp.ErrAt w0 eb) (h : Dp.PartsAt w0 p w l) :
    Calls Tryz.prog 100 #[.pointer (some ⟨p, 0, none⟩)] w fun e w' => w' = w ∧ e = if l.length = 0 then .returned (.tuple #[]) else .panicked (Dp.wrong eb) := by
  have he' := he.keep h.kept
  obtain ⟨v, hr, hc⟩ := h.row
  obtain ⟨ad, cap, rfl, h2, h3, _⟩ := hc
  have c0 := hr.cellAt 0 (by simp)
  simp only [List.getElem_cons_zero] at c0
  by_cases hle : l.length = 0
  · have hg : ((l.length : Int) == 0) = true := by simp [hle]
    rw [if_pos hle]
    go_enter Tryz.func100, Tryz.ntmps100
    go_wp2_with fail
    with_reducible refine (progReqT _ _).mono ?_
    rintro e w1 ⟨rfl, rfl⟩
    go_wp2
    go_end0
    exact ⟨rfl, rfl⟩
  · have hg : ((l.length : Int) == 0) = false := by rw [beq_eq_false_iff_ne]; omega
    rw [if_neg hle]
    go_enter Tryz.func100, Tryz.ntmps100
    go_wp2_with fail
    with_reducible refine (progReqF _ eb _ he').mono ?_
    rintro e w1 ⟨rfl, rfl⟩
    exact ⟨rfl, rfl, rfl⟩

end Go.Proofs.YtdipojfngdceoabGreatDoor
