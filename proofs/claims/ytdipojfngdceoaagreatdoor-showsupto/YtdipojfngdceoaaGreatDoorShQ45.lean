/- Steps on the way: OpenOps, ErrLaid. -/
import Derived.Test.YtdipojfngdceoaaGreatDoorShQ27
import Derived.Test.YtdipojfngdceoaaGreatDoorShQ35
import Derived.Deep.Grids
import Derived.Test.YtdipojfngdceoaaGreatDoorRows
import Derived.LaidLaws
import Derived.LaidSub
namespace Go.Proofs.YtdipojfngdceoaaGreatDoor
open Go.ChangeShapes Go.WideShapes Go.ChangeAt Go.RowKit
section
variable {H : Type} {enc : TypeId × Value → H} {W : World} {fuel : Nat} {v : Value} {y : DataW H × List MemPlace}
theorem asked_of (h : DataW.trod enc Tryz.prog W 0 (fun _ => true) true fuel 38 [v] = some y) (hp : ∀ x ∈ y.2, x.block < W.heap.size) (hk : Rows.uptoBulk y.1 ≤ 1048576) : ∃ l, Dp.AskedAt W v l := by
 rcases Go.Deep.open_bools Tryz.underlying38 Tryz.underlying4 cellsBool h with ⟨hcs, rfl⟩ | ⟨a, len, cap, Bf, hcs, _, hl, hm, rfl, hcell⟩
 ·obtain rfl : v = .slice none 0 0 := by simpa using hcs
  exact ⟨[], ⟨0, 0, none, 0, rfl, by simp, fun e => absurd rfl e, fun i hi => absurd hi (by simp)⟩⟩
 ·obtain rfl : v = .slice (some a) len cap := by simpa using hcs
  have hb : len ≤ 1048576 := by
   have h1 := Dp.bulkAll_length ((List.range len).map fun i => (DataW.lit (.bool (Bf i)) : DataW H))
   simp only [List.length_map, List.length_range] at h1
   simp only [Go.Deep.boolRow, Rows.uptoBulk] at hk
   omega
  refine ⟨(List.range len).map Bf, ?_⟩
  by_cases h0 : len = 0
  ·subst h0
   exact ⟨0, 0, some a, cap, by simp, by simp, fun e => absurd (by simp) e, fun i hi => absurd hi (by simp)⟩
  ·obtain ⟨b, off, spot⟩ := a
   have hspot : spot = none := by simpa [Addr.add] using World.cell?_spot (hcell 0 (by omega))
   subst hspot
   have hbW : b < W.heap.size := hp (.cell b off) (MemPlace.mem_row.2 ⟨0, by omega, by simp⟩)
   refine ⟨b, off, _, _, by rw [List.length_map, List.length_range], by rw [List.length_map, List.length_range]; omega, fun _ => ⟨rfl, hbW⟩, fun i hi => ?_⟩
   have hi' : i < len := by simpa using hi
   rw [← Dp.add_off, hcell i (by omega)]
   simp
theorem op_ofA {cs : List Value} (h : DataW.trod enc Tryz.prog W 0 (fun _ => true) true fuel 40 cs = some y) (hp : ∀ x ∈ y.2, x.block < W.heap.size) (hk : Rows.uptoBulk y.1 ≤ 1048576) :
  ∃ o : Dp.SOp, cs = o.cells ∧ o.vA.oneCell' = true ∧ (-9223372036854775808 ≤ o.kind ∧ o.kind ≤ 9223372036854775807) ∧ o.St.size ≤ 1048576 ∧ ∃ l, Dp.AskedAt W o.vA l := by
 obtain ⟨o, ho, h1, h2⟩ := op_of h
 refine ⟨o, ho, h1, h2, ?_⟩
 obtain ⟨xs, n, _, rfl, hl, hlen, hf⟩ := DataW.trod_struct Tryz.underlying40 h
 subst ho
 obtain ⟨y0, y1, y2, y3, y4, rfl⟩ := Dp.five (show xs.length = 5 from hlen)
 have f2 : DataW.trod enc Tryz.prog W 0 (fun _ => true) true n 38 [o.vA] = some y2 := by
  have h : DataW.trod enc Tryz.prog W 0 (fun _ => true) true n 38 (List.take (Tryz.prog.cellsOf 38) (List.drop 2 o.cells)) = some y2 := hf 2 _ rfl
  rw [cellsBools] at h
  exact h
 have f3 : DataW.trod enc Tryz.prog W 0 (fun _ => true) true n 9 [.string o.St] = some y3 := by
  have h : DataW.trod enc Tryz.prog W 0 (fun _ => true) true n 9 (List.take (Tryz.prog.cellsOf 9) (List.drop 3 o.cells)) = some y3 := hf 3 _ rfl
  rw [cellsStr] at h
  exact h
 simp only [Rows.uptoBulk, Rows.uptoBulkAll, List.map_cons, List.map_nil] at hk
 refine ⟨?_, asked_of f2 (fun x hx => hp x (by simp [hx])) (by omega)⟩
 obtain ⟨s, e3, rfl, _⟩ := DataW.trod_string Tryz.underlying9 f3
 obtain rfl : o.St = s := by simpa using e3
 simp only [Rows.uptoBulk] at hk
 have : o.St.data.toList.length = o.St.size := by simp
 omega
theorem ops_ofA (h : DataW.trod enc Tryz.prog W 0 (fun _ => true) true fuel 41 [v] = some y) (hp : ∀ x ∈ y.2, x.block < W.heap.size) (hk : Rows.uptoBulk y.1 ≤ 1048576) :
  ∃ (ops : List Dp.SOp) (ob oo ocap : Nat) (oad : Option Addr), v = .slice oad ops.length ocap ∧ (ops ≠ [] → oad = some ⟨ob, oo, none⟩ ∧ ob < W.heap.size) ∧ ops.length ≤ 1048576 ∧
   (∀ x ∈ ops, x.vA.oneCell' = true) ∧ (∀ x ∈ ops, -9223372036854775808 ≤ x.kind ∧ x.kind ≤ 9223372036854775807) ∧ (∀ x ∈ ops, x.St.size ≤ 1048576) ∧ (∀ x ∈ ops, ∃ l, Dp.AskedAt W x.vA l) ∧ ∀ i (hi : i < ops.length), ∀ j, j < 5 → W.cell? ⟨ob, oo + i * 5 + j, none⟩ = ops[i].cells[j]? := by
 rcases DataW.trod_slice Tryz.underlying41 h with ⟨hcs, rfl⟩ | ⟨a, len, cap, elems, rest, n, _, hcs, rfl, _, hl, hm, hlen, hel, _, _⟩
 ·obtain rfl : v = .slice none 0 0 := by simpa using hcs
  exact ⟨[], 0, 0, 0, none, rfl, fun e => absurd rfl e, by simp, fun x hx => by simp at hx, fun x hx => by simp at hx, fun x hx => by simp at hx, fun x hx => by simp at hx, fun i hi => absurd hi (by simp)⟩
 ·obtain rfl : v = .slice (some a) len cap := by simpa using hcs
  have hb : len ≤ 1048576 := by
   have h1 := Dp.bulkAll_length (elems.map (·.1))
   rw [List.length_map] at h1
   simp only [Rows.uptoBulk] at hk; omega
  by_cases h0 : len = 0
  ·subst h0
   exact ⟨[], 0, 0, cap, some a, rfl, fun e => absurd rfl e, by simp, fun x hx => by simp at hx, fun x hx => by simp at hx, fun x hx => by simp at hx, fun x hx => by simp at hx, fun i hi => absurd hi (by simp)⟩
  ·have each : ∀ i, i < len → ∃ o : Dp.SOp, (∀ j, j < 5 → W.cell? (a.add (i * 5 + j)) = o.cells[j]?) ∧ o.vA.oneCell' = true ∧ (-9223372036854775808 ≤ o.kind ∧ o.kind ≤ 9223372036854775807) ∧ o.St.size ≤ 1048576 ∧ ∃ l, Dp.AskedAt W o.vA l := by
    intro i hi
    have he := hel i hi
    rw [cellsOp, List.getElem?_eq_getElem (by omega), Option.bind_eq_some_iff] at he
    obtain ⟨cs, hcs, ht⟩ := he
    have hmem : elems[i]'(by omega) ∈ elems := List.getElem_mem _
    have hbk : Rows.uptoBulk (elems[i]'(by omega)).1 ≤ 1048576 := by
     have h1 := Dp.bulkAll_mem (List.mem_map.2 ⟨_, hmem, rfl⟩ : (elems[i]'(by omega)).1 ∈ elems.map (·.1))
     simp only [Rows.uptoBulk] at hk; omega
    obtain ⟨o, rfl, g1, g2⟩ := op_ofA ht (fun x hx => hp x (List.mem_append_right _ (List.mem_flatMap.2 ⟨_, List.mem_append_left _ hmem, hx⟩))) hbk
    refine ⟨o, fun j hj => ?_, g1, g2⟩
    have hc := Dp.cells_at hcs j hj
    rw [← hc]
    congr 1
    exact (Dp.add_add a (i * 5) j).symm
   obtain ⟨ops, hol, hops⟩ := Dp.exists_list len each
   obtain ⟨b, off, spot⟩ := a
   have hc0 : W.cell? ((⟨b, off, spot⟩ : Addr).add 0) = some (.int .i64 (ops[0]'(by omega)).kind) := (hops 0 (by omega)).1 0 (by omega)
   have hspot : spot = none := by simpa [Addr.add] using World.cell?_spot hc0
   subst hspot
   have hbW : b < W.heap.size := hp (.cell b off) (List.mem_append_left _ (MemPlace.mem_row.2 ⟨0, by rw [cellsOp, hlen]; omega, by simp⟩))
   refine ⟨ops, b, off, cap, some ⟨b, off, none⟩, by rw [hol], fun _ => ⟨rfl, hbW⟩, by omega, fun x hx => ?_, fun x hx => ?_, fun x hx => ?_, fun x hx => ?_, fun i hi j hj => ?_⟩
   ·obtain ⟨i, hi, rfl⟩ := List.mem_iff_getElem.1 hx
    exact (hops i hi).2.1
   ·obtain ⟨i, hi, rfl⟩ := List.mem_iff_getElem.1 hx
    exact (hops i hi).2.2.1
   ·obtain ⟨i, hi, rfl⟩ := List.mem_iff_getElem.1 hx
    exact (hops i hi).2.2.2.1
   ·obtain ⟨i, hi, rfl⟩ := List.mem_iff_getElem.1 hx
    exact (hops i hi).2.2.2.2
   ·rw [← (hops i hi).1 j hj, Dp.add_off, Nat.add_assoc]
end
end Go.Proofs.YtdipojfngdceoaaGreatDoor

namespace Go.Proofs.YtdipojfngdceoaaGreatDoor
open Go.ChangeShapes Go.WideShapes Go.RowKit
theorem gErr : Tryz.prog.globalNamed "deponent/parts.ErrWrong" = some 0 := by kernel_rfl
theorem tErrG : (Tryz.prog.globals[0]?).map (·.type) = some 160 := by kernel_rfl
theorem starErr : "*" ++ "errors.errorString" = "*errors.errorString" := by decide
theorem rowErr (u : TypeId) (h : Tryz.prog.typeName? 3 u = some "*errors.errorString") : u = 202 :=
 typeName_ptr_named (nm := "errors.errorString") (by rw [starErr]; kernel_rfl) (by kernel_rfl) (by decide) u (by rw [starErr]; exact h)
theorem cellsErrS : Tryz.prog.cellsOf 226 = 1 := by kernel_rfl
theorem cellsStrS : Tryz.prog.cellsOf 9 = 1 := by kernel_rfl
set_option maxRecDepth 100000 in
theorem err_of_laid {W : World} (h : laidMetH Tryz.prog [("deponent/parts.ErrWrong", Rows.laid_deponent_parts_ErrWrong)] W) : ∃ eb, Dp.ErrAt W eb := by
 have h' : laidMet Tryz.prog [("deponent/parts.ErrWrong", Rows.laid_deponent_parts_ErrWrong)] W := h
 obtain ⟨ps, ⟨g0, t0, cs0, f0, p0, q0, hg0, ht0, hv0, hd0, hq, e0⟩, hnd, hrows⟩ := h'
 obtain rfl := Option.some.inj (gErr.symm.trans hg0)
 obtain rfl := Option.some.inj (tErrG.symm.trans ht0)
 have hq' : q0 = [] := hq
 subst hq'
 subst e0
 obtain ⟨l0⟩ := cs0
 have ok0 : ∀ u v, l0 = [.iface u v] → Value.okWide Tryz.prog W .any 0 u v := fun u v e => by
  subst e
  exact (hrows 0 0 (by simp [MemPlace.row])).2 u v (by simpa using World.var?_cell hg0 hv0 0)
 obtain ⟨a0, s0, rfl, hc0, hs0, hz0, rfl⟩ := errorString_of_trod Tryz.underlying160 rowErr Tryz.underlying202 Tryz.underlying226 rfl rfl Tryz.underlying9 cellsErrS cellsStrS hd0 ok0
 exact ⟨a0, by have := World.var?_cell hg0 hv0 0; simpa [Dp.ErrAt] using this⟩
end Go.Proofs.YtdipojfngdceoaaGreatDoor
