/- Steps on the way: OpenArgs. -/
import Derived.Test.YtdipojfngdceoaaGreatDoorPack24
import Derived.Test.YtdipojfngdceoaaGreatDoorRows
import Derived.ProofKit
import Derived.OpenShut
import Derived.Lib.SmallJoins
/- What the arguments of the laws hold: a list of numbers, a list of texts, a machine's making, a list of calls. -/
namespace Go.Proofs.YtdipojfngdceoaaGreatDoor
open Go.ChangeShapes Go.WideShapes Go.ChangeAt Go.RowKit

theorem cellsInt : Tryz.prog.cellsOf 3 = 1 := by kernel_rfl
theorem cellsStr : Tryz.prog.cellsOf 9 = 1 := by kernel_rfl
theorem cellsBool : Tryz.prog.cellsOf 4 = 1 := by kernel_rfl
theorem cellsBools : Tryz.prog.cellsOf 38 = 1 := by kernel_rfl
theorem cellsOp : Tryz.prog.cellsOf 40 = 5 := by kernel_rfl
theorem cellsMade : Tryz.prog.cellsOf 36 = 2 := by kernel_rfl

namespace Dp
theorem exists_list {α : Type} {P : Nat → α → Prop} : ∀ n, (∀ i, i < n → ∃ o, P i o) → ∃ l : List α, l.length = n ∧ ∀ i (h : i < l.length), P i l[i]
  | 0, _ => ⟨[], rfl, fun i h => absurd h (by simp)⟩
  | n + 1, h => by
    obtain ⟨l, hl, hp⟩ := exists_list n (fun i hi => h i (by omega))
    obtain ⟨o, ho⟩ := h n (by omega)
    refine ⟨l ++ [o], by simp [hl], fun i hi => ?_⟩
    by_cases hin : i < l.length
    · rw [List.getElem_append_left hin]; exact hp i hin
    · have : i = n := by simp at hi; omega
      subst this
      rw [List.getElem_append_right (by omega)]; simpa [hl] using ho
theorem five {α : Type} {l : List α} (h : l.length = 5) : ∃ a b c d e, l = [a, b, c, d, e] := by
  match l, h with
  | [a, b, c, d, e], _ => exact ⟨a, b, c, d, e, rfl⟩
theorem add_off (b o i : Nat) : (⟨b, o, none⟩ : Addr).add i = ⟨b, o + i, none⟩ := by unfold Addr.add; split <;> simp_all
theorem add_add (a : Addr) (i j : Nat) : (a.add i).add j = a.add (i + j) := by
  unfold Addr.add
  by_cases hi : i = 0
  · subst hi; simp
  · by_cases hj : j = 0
    · subst hj; simp
    · rw [if_neg hj, if_neg hi, if_neg (show ¬ i + j = 0 by omega)]
      simp [Nat.add_assoc]
theorem mapM_at {α β : Type} {f : α → Option β} : ∀ (l : List α) (cs : List β), l.mapM f = some cs → ∀ j (h : j < l.length), f l[j] = cs[j]?
  | [], _, _, j, h => absurd h (by simp)
  | x :: l, cs, h, j, hj => by
    rw [List.mapM_cons] at h
    simp only [Option.bind_eq_bind, Option.bind_eq_some_iff] at h
    obtain ⟨y, hy, ys, hys, hcs⟩ := h
    have hcs' : cs = y :: ys := by simpa using hcs.symm
    subst hcs'
    cases j with
    | zero => exact hy
    | succ j => exact mapM_at l ys hys j (by simpa using hj)
theorem cells_at {w : World} {base : Nat} {a : Addr} {n : Nat} {cs : List Value} (h : w.cells? base a n = some cs) (j : Nat) (hj : j < n) : w.cell? (a.add j) = cs[j]? := by
  unfold World.cells? at h
  split at h
  · have := mapM_at _ _ h j (by simpa using hj)
    simpa using this
  · exact absurd h (by simp)
theorem bulkAll_length {H : Type} : ∀ l : List (DataW H), l.length ≤ Rows.uptoBulkAll l
  | [] => Nat.le_refl _
  | d :: l => by
    have := bulkAll_length l
    have h1 : 1 ≤ Rows.uptoBulk d := by
      cases d
      case lit x => cases x <;> simp only [Rows.uptoBulk] <;> omega
      all_goals (simp only [Rows.uptoBulk]; try omega)
    simp only [List.length_cons, Rows.uptoBulkAll]; omega
theorem bulkAll_mem {H : Type} {d : DataW H} : ∀ {l : List (DataW H)}, d ∈ l → Rows.uptoBulk d ≤ Rows.uptoBulkAll l
  | x :: l, h => by
    simp only [List.mem_cons] at h
    simp only [Rows.uptoBulkAll]
    rcases h with rfl | h
    · omega
    · have := bulkAll_mem h; omega
end Dp

section
variable {H : Type} {enc : TypeId × Value → H} {W : World} {fuel : Nat} {v : Value} {y : DataW H × List MemPlace}

theorem ints_of (h : DataW.trod enc Tryz.prog W 0 (fun _ => true) true fuel 22 [v] = some y) (hp : ∀ x ∈ y.2, x.block < W.heap.size) (hk : Rows.uptoBulk y.1 ≤ 1048576) :
    ∃ l, Dp.Ints W v l ∧ ∀ x ∈ l, -9223372036854775808 ≤ x ∧ x ≤ 9223372036854775807 := by
  rcases open_ints Tryz.underlying22 Tryz.underlying3 cellsInt h with ⟨hcs, rfl⟩ | ⟨a, len, cap, zs, hcs, _, hl, hm, hz, rfl, hcell, hws⟩
  · obtain rfl : v = .slice none 0 0 := by simpa using hcs
    exact ⟨[], ⟨0, 0, none, 0, rfl, by simp, fun e => absurd rfl e, fun i hi => absurd hi (by simp)⟩, fun x hx => by simp at hx⟩
  · obtain rfl : v = .slice (some a) len cap := by simpa using hcs
    simp only [if_true] at hz
    have hlen : (zs.take len).length = len := by simp; omega
    have hb : len ≤ 1048576 := by
      have h1 := Dp.bulkAll_length (lits (H := H) .i64 (zs.take len))
      have h2 : (lits (H := H) .i64 (zs.take len)).length = len := by simp [lits]; omega
      simp only [Rows.uptoBulk] at hk; omega
    refine ⟨zs.take len, ?_, fun x hx => bounds_i64 (hws x (List.mem_of_mem_take hx))⟩
    by_cases h0 : len = 0
    · subst h0
      exact ⟨0, 0, some a, cap, by simp, by simp, fun e => absurd (by simp) e, fun i hi => absurd hi (by simp)⟩
    · obtain ⟨b, off, spot⟩ := a
      have hspot : spot = none := by simpa [Addr.add] using World.cell?_spot (hcell 0 (by omega))
      subst hspot
      have hbW : b < W.heap.size := hp (.cell b off) (MemPlace.mem_row.2 ⟨0, by omega, by simp⟩)
      refine ⟨b, off, _, _, by rw [hlen], by omega, fun _ => ⟨rfl, hbW⟩, fun i hi => ?_⟩
      have hi' : i < len := by omega
      rw [← Dp.add_off, hcell i (by omega)]
      simp [List.getElem_take, List.getD_eq_getElem?_getD, List.getElem?_eq_getElem (show i < zs.length by omega)]

theorem texts_of (h : DataW.trod enc Tryz.prog W 0 (fun _ => true) true fuel 34 [v] = some y) (hp : ∀ x ∈ y.2, x.block < W.heap.size) (hk : Rows.uptoBulk y.1 ≤ 1048576) :
    ∃ l, Dp.Texts W v l := by
  rcases open_strings Tryz.underlying34 Tryz.underlying9 cellsStr h with ⟨hcs, rfl⟩ | ⟨a, len, cap, ss, hcs, _, hl, hm, hz, rfl, hcell, hws⟩
  · obtain rfl : v = .slice none 0 0 := by simpa using hcs
    exact ⟨[], 0, 0, none, 0, rfl, by simp, fun e => absurd rfl e, fun i hi => absurd hi (by simp)⟩
  · obtain rfl : v = .slice (some a) len cap := by simpa using hcs
    simp only [if_true] at hz
    have hlen : (ss.take len).length = len := by simp; omega
    have hb : len ≤ 1048576 := by
      have h1 := Dp.bulkAll_length (strs (H := H) (ss.take len))
      have h2 : (strs (H := H) (ss.take len)).length = len := by simp [strs]; omega
      simp only [Rows.uptoBulk] at hk; omega
    have hsl : ∀ s ∈ ss.take len, s.data.toList.length ≤ 1048576 := by
      intro s hs
      have h1 := Dp.bulkAll_mem (H := H) (d := .lit (.string s.data.toList)) (l := strs (ss.take len)) (List.mem_map.2 ⟨s, hs, rfl⟩)
      simp only [Rows.uptoBulk] at hk h1; omega
    refine ⟨(ss.take len).map (fun s => s.data.toList), ?_⟩
    by_cases h0 : len = 0
    · subst h0
      exact ⟨0, 0, some a, cap, by simp, by simp, fun e => absurd (by simp) e, fun i hi => absurd hi (by simp)⟩
    · obtain ⟨b, off, spot⟩ := a
      have hspot : spot = none := by simpa [Addr.add] using World.cell?_spot (hcell 0 (by omega))
      subst hspot
      have hbW : b < W.heap.size := hp (.cell b off) (MemPlace.mem_row.2 ⟨0, by omega, by simp⟩)
      refine ⟨b, off, _, _, by rw [List.length_map, hlen], by rw [List.length_map]; omega, fun _ => ⟨rfl, hbW⟩, fun i hi => ?_⟩
      have hi' : i < len := by rw [List.length_map] at hi; omega
      refine ⟨?_, ?_⟩
      · rw [List.getElem_map]; exact hsl _ (List.getElem_mem _)
      · rw [← Dp.add_off, hcell i (by omega)]
        simp [Dp.str, List.getElem_take, List.getD_eq_getElem?_getD, List.getElem?_eq_getElem (show i < ss.length by omega)]

theorem op_of {cs : List Value} (h : DataW.trod enc Tryz.prog W 0 (fun _ => true) true fuel 40 cs = some y) :
    ∃ o : Dp.SOp, cs = o.cells ∧ o.vA.oneCell' = true ∧ -9223372036854775808 ≤ o.kind ∧ o.kind ≤ 9223372036854775807 := by
  obtain ⟨xs, n, _, rfl, hl, hlen, hf⟩ := DataW.trod_struct Tryz.underlying40 h
  rw [cellsOp] at hl
  obtain ⟨c0, c1, c2, c3, c4, rfl⟩ := Dp.five hl
  obtain ⟨y0, y1, y2, y3, y4, rfl⟩ := Dp.five (show xs.length = 5 from hlen)
  have f0 : DataW.trod enc Tryz.prog W 0 (fun _ => true) true n 3 [c0] = some y0 := by
    have h : DataW.trod enc Tryz.prog W 0 (fun _ => true) true n 3 (List.take (Tryz.prog.cellsOf 3) (List.drop 0 [c0, c1, c2, c3, c4])) = some y0 := hf 0 _ rfl
    rw [cellsInt] at h
    exact h
  have f1 : DataW.trod enc Tryz.prog W 0 (fun _ => true) true n 3 [c1] = some y1 := by
    have h : DataW.trod enc Tryz.prog W 0 (fun _ => true) true n 3 (List.take (Tryz.prog.cellsOf 3) (List.drop 1 [c0, c1, c2, c3, c4])) = some y1 := hf 1 _ rfl
    rw [cellsInt] at h
    exact h
  have f2 : DataW.trod enc Tryz.prog W 0 (fun _ => true) true n 38 [c2] = some y2 := by
    have h : DataW.trod enc Tryz.prog W 0 (fun _ => true) true n 38 (List.take (Tryz.prog.cellsOf 38) (List.drop 2 [c0, c1, c2, c3, c4])) = some y2 := hf 2 _ rfl
    rw [cellsBools] at h
    exact h
  have f3 : DataW.trod enc Tryz.prog W 0 (fun _ => true) true n 9 [c3] = some y3 := by
    have h : DataW.trod enc Tryz.prog W 0 (fun _ => true) true n 9 (List.take (Tryz.prog.cellsOf 9) (List.drop 3 [c0, c1, c2, c3, c4])) = some y3 := hf 3 _ rfl
    rw [cellsStr] at h
    exact h
  have f4 : DataW.trod enc Tryz.prog W 0 (fun _ => true) true n 4 [c4] = some y4 := by
    have h : DataW.trod enc Tryz.prog W 0 (fun _ => true) true n 4 (List.take (Tryz.prog.cellsOf 4) (List.drop 4 [c0, c1, c2, c3, c4])) = some y4 := hf 4 _ rfl
    rw [cellsBool] at h
    exact h
  obtain ⟨k, e0, _, w0⟩ := DataW.trod_int Tryz.underlying3 f0
  obtain ⟨nn, e1, _, _⟩ := DataW.trod_int Tryz.underlying3 f1
  obtain ⟨s, e3, _, _⟩ := DataW.trod_string Tryz.underlying9 f3
  obtain ⟨q, e4, _⟩ := DataW.trod_bool Tryz.underlying4 f4
  obtain rfl : c0 = .int .i64 k := by simpa using e0
  obtain rfl : c1 = .int .i64 nn := by simpa using e1
  obtain rfl : c3 = .string s := by simpa using e3
  obtain rfl : c4 = .bool q := by simpa using e4
  refine ⟨⟨k, nn, c2, s, q⟩, rfl, ?_, bounds_i64 w0⟩
  rcases DataW.trod_slice Tryz.underlying38 f2 with ⟨e2, _⟩ | ⟨a, len, cap, _, _, _, _, e2, _⟩
  · obtain rfl : c2 = .slice none 0 0 := by simpa using e2
    rfl
  · obtain rfl : c2 = .slice (some a) len cap := by simpa using e2
    rfl

theorem ops_of (h : DataW.trod enc Tryz.prog W 0 (fun _ => true) true fuel 41 [v] = some y) (hp : ∀ x ∈ y.2, x.block < W.heap.size) (hk : Rows.uptoBulk y.1 ≤ 1048576) :
    ∃ (ops : List Dp.SOp) (ob oo ocap : Nat) (oad : Option Addr), v = .slice oad ops.length ocap ∧ (ops ≠ [] → oad = some ⟨ob, oo, none⟩ ∧ ob < W.heap.size) ∧ ops.length ≤ 1048576 ∧
      (∀ x ∈ ops, x.vA.oneCell' = true) ∧ (∀ x ∈ ops, -9223372036854775808 ≤ x.kind ∧ x.kind ≤ 9223372036854775807) ∧ ∀ i (hi : i < ops.length), ∀ j, j < 5 → W.cell? ⟨ob, oo + i * 5 + j, none⟩ = ops[i].cells[j]? := by
  rcases DataW.trod_slice Tryz.underlying41 h with ⟨hcs, rfl⟩ | ⟨a, len, cap, elems, rest, n, _, hcs, rfl, _, hl, hm, hlen, hel, _, _⟩
  · obtain rfl : v = .slice none 0 0 := by simpa using hcs
    exact ⟨[], 0, 0, 0, none, rfl, fun e => absurd rfl e, by simp, fun x hx => by simp at hx, fun x hx => by simp at hx, fun i hi => absurd hi (by simp)⟩
  · obtain rfl : v = .slice (some a) len cap := by simpa using hcs
    have hb : len ≤ 1048576 := by
      have h1 := Dp.bulkAll_length (elems.map (·.1))
      rw [List.length_map] at h1
      simp only [Rows.uptoBulk] at hk; omega
    by_cases h0 : len = 0
    · subst h0
      exact ⟨[], 0, 0, cap, some a, rfl, fun e => absurd rfl e, by simp, fun x hx => by simp at hx, fun x hx => by simp at hx, fun i hi => absurd hi (by simp)⟩
    · have each : ∀ i, i < len → ∃ o : Dp.SOp, (∀ j, j < 5 → W.cell? (a.add (i * 5 + j)) = o.cells[j]?) ∧ o.vA.oneCell' = true ∧ -9223372036854775808 ≤ o.kind ∧ o.kind ≤ 9223372036854775807 := by
        intro i hi
        have he := hel i hi
        rw [cellsOp, List.getElem?_eq_getElem (by omega), Option.bind_eq_some_iff] at he
        obtain ⟨cs, hcs, ht⟩ := he
        obtain ⟨o, rfl, g1, g2⟩ := op_of ht
        refine ⟨o, fun j hj => ?_, g1, g2⟩
        have hc := Dp.cells_at hcs j hj
        rw [← hc]
        congr 1
        exact (Dp.add_add a (i * 5) j).symm
      obtain ⟨ops, hol, hops⟩ := Dp.exists_list len each
      obtain ⟨b, off, spot⟩ := a
      have hc0 : W.cell? ((⟨b, off, spot⟩ : Addr).add 0) = some (.int .i64 (ops[0]'(by omega)).kind) := (hops 0 (by omega)).1 0 (by omega)
      have hspot : spot = none := by simpa [Addr.add] using World.cell?_spot hc0
      subst hspot
      have hbW : b < W.heap.size := hp (.cell b off) (List.mem_append_left _ (MemPlace.mem_row.2 ⟨0, by rw [cellsOp, hlen]; omega, by simp⟩))
      refine ⟨ops, b, off, cap, some ⟨b, off, none⟩, by rw [hol], fun _ => ⟨rfl, hbW⟩, by omega, fun x hx => ?_, fun x hx => ?_, fun i hi j hj => ?_⟩
      · obtain ⟨i, hi, rfl⟩ := List.mem_iff_getElem.1 hx
        exact (hops i hi).2.1
      · obtain ⟨i, hi, rfl⟩ := List.mem_iff_getElem.1 hx
        exact (hops i hi).2.2
      · rw [← (hops i hi).1 j hj, Dp.add_off, Nat.add_assoc]
end

end Go.Proofs.YtdipojfngdceoaaGreatDoor
