/- Steps on the way: OpenBase, OpenWide, ErrLaid. -/
import Derived.Test.YtdipojfngdceoabGreatDoorPack01
import Derived.Test.YtdipojfngdceoabGreatDoorPack70
import Derived.Test.YtdipojfngdceoabGreatDoorPack84
import Derived.Test.YtdipojfngdceoabGreatDoorRows
import Derived.ProofKit
import Derived.OpenShut
import Derived.Lib.SmallJoins
import Derived.LaidLaws
import Derived.LaidSub
/- What arguments hold: the common part. -/
namespace Go.Proofs.YtdipojfngdceoabGreatDoor
open Go.ChangeShapes Go.WideShapes Go.ChangeAt Go.RowKit

theorem cellsInt : Tryz.prog.cellsOf 3 = 1 := by kernel_rfl
theorem cellsStr : Tryz.prog.cellsOf 9 = 1 := by kernel_rfl
theorem cellsBool : Tryz.prog.cellsOf 4 = 1 := by kernel_rfl

namespace Dp
theorem exists_list {α : Type} {P : Nat → α → Prop} : ∀ n, (∀ i, i < n → ∃ o, P i o) → ∃ l : List α, l.length = n ∧ ∀ i (h : i < l.length), P i l[i]
  | 0, _ => ⟨[], rfl, fun i h => absurd h (by simp)⟩
  | n + 1, h => by
    obtain ⟨l, hl, hp⟩ := exists_list n (fun i hi => h i (by omega))
    obtain ⟨o, ho⟩ := h n (by omega)
    refine ⟨l ++ [o], by simp [hl], fun i hi => ?_⟩
    by_cases hin : i < l.length
    · rw [List.getElem_append_left hin]; exact hp i hin
    · have : i = n := by simp at hi; omega
      subst this
      rw [List.getElem_append_right (by omega)]; simpa [hl] using ho
theorem five {α : Type} {l : List α} (h : l.length = 5) : ∃ a b c d e, l = [a, b, c, d, e] := by
  match l, h with
  | [a, b, c, d, e], _ => exact ⟨a, b, c, d, e, rfl⟩
theorem add_off (b o i : Nat) : (⟨b, o, none⟩ : Addr).add i = ⟨b, o + i, none⟩ := by unfold Addr.add; split <;> simp_all
theorem add_add (a : Addr) (i j : Nat) : (a.add i).add j = a.add (i + j) := by
  unfold Addr.add
  by_cases hi : i = 0
  · subst hi; simp
  · by_cases hj : j = 0
    · subst hj; simp
    · rw [if_neg hj, if_neg hi, if_neg (show ¬ i + j = 0 by omega)]
      simp [Nat.add_assoc]
theorem mapM_at {α β : Type} {f : α → Option β} : ∀ (l : List α) (cs : List β), l.mapM f = some cs → ∀ j (h : j < l.length), f l[j] = cs[j]?
  | [], _, _, j, h => absurd h (by simp)
  | x :: l, cs, h, j, hj => by
    rw [List.mapM_cons] at h
    simp only [Option.bind_eq_bind, Option.bind_eq_some_iff] at h
    obtain ⟨y, hy, ys, hys, hcs⟩ := h
    have hcs' : cs = y :: ys := by simpa using hcs.symm
    subst hcs'
    cases j with
    | zero => exact hy
    | succ j => exact mapM_at l ys hys j (by simpa using hj)
theorem cells_at {w : World} {base : Nat} {a : Addr} {n : Nat} {cs : List Value} (h : w.cells? base a n = some cs) (j : Nat) (hj : j < n) : w.cell? (a.add j) = cs[j]? := by
  unfold World.cells? at h
  split at h
  · have := mapM_at _ _ h j (by simpa using hj)
    simpa using this
  · exact absurd h (by simp)
theorem bulkAll_length {H : Type} : ∀ l : List (DataW H), l.length ≤ Rows.uptoBulkAll l
  | [] => Nat.le_refl _
  | d :: l => by
    have := bulkAll_length l
    have h1 : 1 ≤ Rows.uptoBulk d := by
      cases d
      case lit x => cases x <;> simp only [Rows.uptoBulk] <;> omega
      all_goals (simp only [Rows.uptoBulk]; try omega)
    simp only [List.length_cons, Rows.uptoBulkAll]; omega
theorem bulkAll_mem {H : Type} {d : DataW H} : ∀ {l : List (DataW H)}, d ∈ l → Rows.uptoBulk d ≤ Rows.uptoBulkAll l
  | x :: l, h => by
    simp only [List.mem_cons] at h
    simp only [Rows.uptoBulkAll]
    rcases h with rfl | h
    · omega
    · have := bulkAll_mem h; omega
end Dp

end Go.Proofs.YtdipojfngdceoabGreatDoor

/- What arguments hold, however great they are: a list of numbers, a list of texts. -/
namespace Go.Proofs.YtdipojfngdceoabGreatDoor
open Go.ChangeShapes Go.WideShapes Go.ChangeAt Go.RowKit

section
variable {H : Type} {enc : TypeId × Value → H} {W : World} {fuel : Nat} {v : Value} {y : DataW H × List MemPlace}

theorem ints_wide (h : DataW.trod enc Tryz.prog W 0 (fun _ => true) true fuel 22 [v] = some y) (hp : ∀ x ∈ y.2, x.block < W.heap.size) :
    ∃ l, Dp.IntsW W v l ∧ ∀ x ∈ l, -9223372036854775808 ≤ x ∧ x ≤ 9223372036854775807 := by
  rcases open_ints Tryz.underlying22 Tryz.underlying3 cellsInt h with ⟨hcs, rfl⟩ | ⟨a, len, cap, zs, hcs, _, hl, hm, hz, rfl, hcell, hws⟩
  · obtain rfl : v = .slice none 0 0 := by simpa using hcs
    exact ⟨[], ⟨0, 0, none, 0, rfl, by simp [maxLen], fun e => absurd rfl e, fun i hi => absurd hi (by simp)⟩, fun x hx => by simp at hx⟩
  · obtain rfl : v = .slice (some a) len cap := by simpa using hcs
    simp only [if_true] at hz
    have hlen : (zs.take len).length = len := by simp; omega
    refine ⟨zs.take len, ?_, fun x hx => bounds_i64 (hws x (List.mem_of_mem_take hx))⟩
    by_cases h0 : len = 0
    · subst h0
      exact ⟨0, 0, some a, cap, by simp, by simp [maxLen], fun e => absurd (by simp) e, fun i hi => absurd hi (by simp)⟩
    · obtain ⟨b, off, spot⟩ := a
      have hspot : spot = none := by simpa [Addr.add] using World.cell?_spot (hcell 0 (by omega))
      subst hspot
      have hbW : b < W.heap.size := hp (.cell b off) (MemPlace.mem_row.2 ⟨0, by omega, by simp⟩)
      refine ⟨b, off, _, _, by rw [hlen], by omega, fun _ => ⟨rfl, hbW⟩, fun i hi => ?_⟩
      have hi' : i < len := by omega
      rw [← Dp.add_off, hcell i (by omega)]
      simp [List.getElem_take, List.getD_eq_getElem?_getD, List.getElem?_eq_getElem (show i < zs.length by omega)]

theorem texts_wide (h : DataW.trod enc Tryz.prog W 0 (fun _ => true) true fuel 23 [v] = some y) (hp : ∀ x ∈ y.2, x.block < W.heap.size) :
    ∃ l, Dp.TextsW W v l := by
  rcases open_strings Tryz.underlying23 Tryz.underlying9 cellsStr h with ⟨hcs, rfl⟩ | ⟨a, len, cap, ss, hcs, _, hl, hm, hz, rfl, hcell, hws⟩
  · obtain rfl : v = .slice none 0 0 := by simpa using hcs
    exact ⟨[], 0, 0, none, 0, rfl, by simp [maxLen], fun e => absurd rfl e, fun i hi => absurd hi (by simp)⟩
  · obtain rfl : v = .slice (some a) len cap := by simpa using hcs
    simp only [if_true] at hz
    have hlen : (ss.take len).length = len := by simp; omega
    have hsl : ∀ s ∈ ss.take len, s.data.toList.length ≤ maxLen := by
      intro s hs
      have := hws s (List.mem_of_mem_take hs)
      simpa using this
    refine ⟨(ss.take len).map (fun s => s.data.toList), ?_⟩
    by_cases h0 : len = 0
    · subst h0
      exact ⟨0, 0, some a, cap, by simp, by simp [maxLen], fun e => absurd (by simp) e, fun i hi => absurd hi (by simp)⟩
    · obtain ⟨b, off, spot⟩ := a
      have hspot : spot = none := by simpa [Addr.add] using World.cell?_spot (hcell 0 (by omega))
      subst hspot
      have hbW : b < W.heap.size := hp (.cell b off) (MemPlace.mem_row.2 ⟨0, by omega, by simp⟩)
      refine ⟨b, off, _, _, by rw [List.length_map, hlen], by rw [List.length_map]; omega, fun _ => ⟨rfl, hbW⟩, fun i hi => ?_⟩
      have hi' : i < len := by rw [List.length_map] at hi; omega
      refine ⟨?_, ?_⟩
      · rw [List.getElem_map]; exact hsl _ (List.getElem_mem _)
      · rw [← Dp.add_off, hcell i (by omega)]
        simp [Dp.str, List.getElem_take, List.getD_eq_getElem?_getD, List.getElem?_eq_getElem (show i < ss.length by omega)]
end
end Go.Proofs.YtdipojfngdceoabGreatDoor

/- What the listed variable holds: the error that a witness is given up with. -/
namespace Go.Proofs.YtdipojfngdceoabGreatDoor
open Go.ChangeShapes Go.WideShapes Go.RowKit

theorem gErr : Tryz.prog.globalNamed "deponent/parts.ErrWrong" = some 0 := by kernel_rfl
theorem tErrG : (Tryz.prog.globals[0]?).map (·.type) = some 140 := by kernel_rfl
theorem starErr : "*" ++ "errors.errorString" = "*errors.errorString" := by decide
theorem rowErr (u : TypeId) (h : Tryz.prog.typeName? 3 u = some "*errors.errorString") : u = 196 :=
  typeName_ptr_named (nm := "errors.errorString") (by rw [starErr]; kernel_rfl) (by kernel_rfl) (by decide) u (by rw [starErr]; exact h)

theorem cellsErrS : Tryz.prog.cellsOf 220 = 1 := by kernel_rfl
theorem cellsStrS : Tryz.prog.cellsOf 9 = 1 := by kernel_rfl

set_option maxRecDepth 100000 in
theorem err_of_laid {W : World} (h : laidMetH Tryz.prog [("deponent/parts.ErrWrong", Rows.laid_deponent_parts_ErrWrong)] W) : ∃ eb, Dp.ErrAt W eb := by
  have h' : laidMet Tryz.prog [("deponent/parts.ErrWrong", Rows.laid_deponent_parts_ErrWrong)] W := h
  obtain ⟨ps, ⟨g0, t0, cs0, f0, p0, q0, hg0, ht0, hv0, hd0, hq, e0⟩, hnd, hrows⟩ := h'
  obtain rfl := Option.some.inj (gErr.symm.trans hg0)
  obtain rfl := Option.some.inj (tErrG.symm.trans ht0)
  have hq' : q0 = [] := hq
  subst hq'
  subst e0
  obtain ⟨l0⟩ := cs0
  have ok0 : ∀ u v, l0 = [.iface u v] → Value.okWide Tryz.prog W .any 0 u v := fun u v e => by
    subst e
    exact (hrows 0 0 (by simp [MemPlace.row])).2 u v (by simpa using World.var?_cell hg0 hv0 0)
  obtain ⟨a0, s0, rfl, hc0, hs0, hz0, rfl⟩ := errorString_of_trod Tryz.underlying140 rowErr Tryz.underlying196 Tryz.underlying220 rfl rfl Tryz.underlying9 cellsErrS cellsStrS hd0 ok0
  exact ⟨a0, by have := World.var?_cell hg0 hv0 0; simpa [Dp.ErrAt] using this⟩
end Go.Proofs.YtdipojfngdceoabGreatDoor
