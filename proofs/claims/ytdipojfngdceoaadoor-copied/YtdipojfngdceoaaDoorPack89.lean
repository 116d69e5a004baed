/- Steps on the way: OpenBase, ErrLaid. -/
import Derived.Test.YtdipojfngdceoaaDoorPack56
import Derived.Test.YtdipojfngdceoaaDoorPack70
import Derived.Test.YtdipojfngdceoaaDoorRows
import Derived.ProofKit
import Derived.OpenShut
import Derived.Lib.SmallJoins
import Derived.LaidLaws
import Derived.LaidSub
/- What arguments hold: the common part. -/
namespace Go.Proofs.YtdipojfngdceoaaDoor
open Go.ChangeShapes Go.WideShapes Go.ChangeAt Go.RowKit

theorem cellsInt : Tryd.prog.cellsOf 3 = 1 := by kernel_rfl
theorem cellsStr : Tryd.prog.cellsOf 9 = 1 := by kernel_rfl
theorem cellsBool : Tryd.prog.cellsOf 4 = 1 := by kernel_rfl

namespace Dp
theorem exists_list {α : Type} {P : Nat → α → Prop} : ∀ n, (∀ i, i < n → ∃ o, P i o) → ∃ l : List α, l.length = n ∧ ∀ i (h : i < l.length), P i l[i]
  | 0, _ => ⟨[], rfl, fun i h => absurd h (by simp)⟩
  | n + 1, h => by
    obtain ⟨l, hl, hp⟩ := exists_list n (fun i hi => h i (by omega))
    obtain ⟨o, ho⟩ := h n (by omega)
    refine ⟨l ++ [o], by simp [hl], fun i hi => ?_⟩
    by_cases hin : i < l.length
    · rw [List.getElem_append_left hin]; exact hp i hin
    · have : i = n := by simp at hi; omega
      subst this
      rw [List.getElem_append_right (by omega)]; simpa [hl] using ho
theorem five {α : Type} {l : List α} (h : l.length = 5) : ∃ a b c d e, l = [a, b, c, d, e] := by
  match l, h with
  | [a, b, c, d, e], _ => exact ⟨a, b, c, d, e, rfl⟩
theorem add_off (b o i : Nat) : (⟨b, o, none⟩ : Addr).add i = ⟨b, o + i, none⟩ := by unfold Addr.add; split <;> simp_all
theorem add_add (a : Addr) (i j : Nat) : (a.add i).add j = a.add (i + j) := by
  unfold Addr.add
  by_cases hi : i = 0
  · subst hi; simp
  · by_cases hj : j = 0
    · subst hj; simp
    · rw [if_neg hj, if_neg hi, if_neg (show ¬ i + j = 0 by omega)]
      simp [Nat.add_assoc]
theorem mapM_at {α β : Type} {f : α → Option β} : ∀ (l : List α) (cs : List β), l.mapM f = some cs → ∀ j (h : j < l.length), f l[j] = cs[j]?
  | [], _, _, j, h => absurd h (by simp)
  | x :: l, cs, h, j, hj => by
    rw [List.mapM_cons] at h
    simp only [Option.bind_eq_bind, Option.bind_eq_some_iff] at h
    obtain ⟨y, hy, ys, hys, hcs⟩ := h
    have hcs' : cs = y :: ys := by simpa using hcs.symm
    subst hcs'
    cases j with
    | zero => exact hy
    | succ j => exact mapM_at l ys hys j (by simpa using hj)
theorem cells_at {w : World} {base : Nat} {a : Addr} {n : Nat} {cs : List Value} (h : w.cells? base a n = some cs) (j : Nat) (hj : j < n) : w.cell? (a.add j) = cs[j]? := by
  unfold World.cells? at h
  split at h
  · have := mapM_at _ _ h j (by simpa using hj)
    simpa using this
  · exact absurd h (by simp)
theorem bulkAll_length {H : Type} : ∀ l : List (DataW H), l.length ≤ Rows.uptoBulkAll l
  | [] => Nat.le_refl _
  | d :: l => by
    have := bulkAll_length l
    have h1 : 1 ≤ Rows.uptoBulk d := by
      cases d
      case lit x => cases x <;> simp only [Rows.uptoBulk] <;> omega
      all_goals (simp only [Rows.uptoBulk]; try omega)
    simp only [List.length_cons, Rows.uptoBulkAll]; omega
theorem bulkAll_mem {H : Type} {d : DataW H} : ∀ {l : List (DataW H)}, d ∈ l → Rows.uptoBulk d ≤ Rows.uptoBulkAll l
  | x :: l, h => by
    simp only [List.mem_cons] at h
    simp only [Rows.uptoBulkAll]
    rcases h with rfl | h
    · omega
    · have := bulkAll_mem h; omega
end Dp

end Go.Proofs.YtdipojfngdceoaaDoor

/- What the listed variable holds: the error that a witness is given up with. -/
namespace Go.Proofs.YtdipojfngdceoaaDoor
open Go.ChangeShapes Go.WideShapes Go.RowKit

theorem gErr : Tryd.prog.globalNamed "deponent/parts.ErrWrong" = some 0 := by kernel_rfl
theorem tErrG : (Tryd.prog.globals[0]?).map (·.type) = some 135 := by kernel_rfl
theorem starErr : "*" ++ "errors.errorString" = "*errors.errorString" := by decide
theorem rowErr (u : TypeId) (h : Tryd.prog.typeName? 3 u = some "*errors.errorString") : u = 167 :=
  typeName_ptr_named (nm := "errors.errorString") (by rw [starErr]; kernel_rfl) (by kernel_rfl) (by decide) u (by rw [starErr]; exact h)

theorem cellsErrS : Tryd.prog.cellsOf 193 = 1 := by kernel_rfl
theorem cellsStrS : Tryd.prog.cellsOf 9 = 1 := by kernel_rfl

set_option maxRecDepth 100000 in
theorem err_of_laid {W : World} (h : laidMetH Tryd.prog [("deponent/parts.ErrWrong", Rows.laid_deponent_parts_ErrWrong)] W) : ∃ eb, Dp.ErrAt W eb := by
  have h' : laidMet Tryd.prog [("deponent/parts.ErrWrong", Rows.laid_deponent_parts_ErrWrong)] W := h
  obtain ⟨ps, ⟨g0, t0, cs0, f0, p0, q0, hg0, ht0, hv0, hd0, hq, e0⟩, hnd, hrows⟩ := h'
  obtain rfl := Option.some.inj (gErr.symm.trans hg0)
  obtain rfl := Option.some.inj (tErrG.symm.trans ht0)
  have hq' : q0 = [] := hq
  subst hq'
  subst e0
  obtain ⟨l0⟩ := cs0
  have ok0 : ∀ u v, l0 = [.iface u v] → Value.okWide Tryd.prog W .any 0 u v := fun u v e => by
    subst e
    exact (hrows 0 0 (by simp [MemPlace.row])).2 u v (by simpa using World.var?_cell hg0 hv0 0)
  obtain ⟨a0, s0, rfl, hc0, hs0, hz0, rfl⟩ := errorString_of_trod Tryd.underlying135 rowErr Tryd.underlying167 Tryd.underlying193 rfl rfl Tryd.underlying9 cellsErrS cellsStrS hd0 ok0
  exact ⟨a0, by have := World.var?_cell hg0 hv0 0; simpa [Dp.ErrAt] using this⟩
end Go.Proofs.YtdipojfngdceoaaDoor
