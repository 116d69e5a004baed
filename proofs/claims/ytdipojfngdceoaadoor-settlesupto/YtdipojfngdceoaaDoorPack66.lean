/- Steps on the way: RowsTwo, OpenBase, MovesOf, ErrLaid. -/
import Derived.Test.YtdipojfngdceoaaDoorPack40
import Derived.Test.YtdipojfngdceoaaDoorPack56
import Derived.Test.YtdipojfngdceoaaDoorPack65
import Derived.Test.YtdipojfngdceoaaDoorRows
import Derived.ProofKit
import Derived.OpenShut
import Derived.Lib.SmallJoins
import Derived.LaidLaws
import Derived.LaidSub
/- Lists of pairs: made, and copied onto the head of a row. It holds of every program. -/
namespace Go.Proofs.YtdipojfngdceoaaDoor
namespace Dp
open Go.RowKit

def pairs (a b : Value) (n : Nat) : List Value := (madeCells #[a, b] (n * 2)).toList
theorem pairs_length (a b : Value) (n : Nat) : (pairs a b n).length = n * 2 := by
  unfold pairs; rw [Array.length_toList, size_madeCells]
theorem pairs_last (a b : Value) (n : Nat) : (pairs a b (n + 1)).drop (n * 2) = [a, b] := by
  apply List.ext_getElem
  · rw [List.length_drop, pairs_length]; simp; omega
  · intro i h1 h2
    rw [List.getElem_drop]
    simp at h2
    rcases (by omega : i = 0 ∨ i = 1) with rfl | rfl
    · simp [pairs, madeCells]
    · have : (n * 2 + 1) % 2 = 1 := by omega
      simp [pairs, madeCells, this]

theorem wpList_make_pairs {P : Program} (w : World) {ops : Array Oper} {rest : List Oper} {o : Oper} {a : Act} {Q : Exit → Act → World → Prop}
    (hg : o.guard = none) (l c : Operand) (t : TypeId) (hop : o.op = Op.makeSlice t l c)
    (e : TypeId) (x y : Value) (bytes : Nat) (h1 : P.underlying t = some (.slice e)) (h2 : (P.info? e).map (fun i => (i.zero, i.size, i.bytes)) = some (some (.agg #[x, y]), 2, bytes))
    (kl kc : IntKind) (L C : Int) (n : Nat) (hl : a.eval l = .int kl L) (hc : a.eval c = .int kc C) (hL : L = (n : Int)) (hC : C = (n : Int)) (b2 : bytes * n ≤ 281474976710656) (b3 : n ≤ maxLen)
    (hK : ∀ w', Row w' w.heap.size e (pairs x y n) → w'.heap.size = w.heap.size + 1 → Keeps (fun _ => False) w w' → wpList P ops Q rest (a.put o.dst (.slice (some ⟨w.heap.size, 0, none⟩) n n)) w') :
    wpList P ops Q (o :: rest) a w := by
  refine wpList_plain hg fun K hK' => ?_
  obtain ⟨i, hi, hz0, hz1, hz2⟩ := info_parts h2
  subst hL
  subst hC
  unfold maxLen at b3
  have hrun := run_make (P := P) w t e i _ h1 hi hz0 kl kc (n : Int) (n : Int) (by omega) (Int.le_refl _) (by rw [hz2, ← Int.natCast_mul]; omega) (by omega)
  rw [hz1, Int.toNat_natCast] at hrun
  unfold Oper.wp
  simp only [execOp, hop, hl, hc, hrun, Result.andThen, Sem.run_bind]
  have hr := Row.allocNew w e (pairs x y n)
  unfold pairs at hr
  rw [Array.toArray_toList] at hr
  exact hK' _ _ (hK _ (by unfold pairs; exact hr) (by simp) ((Keeps.refl _ _).alloc _))

theorem run_copy_wide {P : Program} (w : World) (dT sT ty elem : TypeId) (g dLen dCap : Nat) (sp : Option Addr) (sLen sCap k : Nat) (cur : List Value) (t : TypeId) (cs : List Value)
    (hu : P.underlying dT = some (.slice elem)) (hs : (P.info? elem).map (·.size) = some k)
    (hg : Row w g t cur) (hn : cs.length = sLen * k) (hle : sLen ≤ dLen)
    (hsrc : 0 < cs.length → ∃ a, sp = some a ∧ ∀ j v, cs[j]? = some v → w.cell? (a.add j) = some v) (hfit : cs.length ≤ cur.length) (h1 : ∀ v ∈ cs, v.oneCell' = true) :
    (Builtin.copy_ #[dT, sT] ty #[.slice (some ⟨g, 0, none⟩) dLen dCap, .slice sp sLen sCap]).run P w =
      .ok (goInt sLen) (w.setRow g (cs ++ cur.drop cs.length).toArray) := by
  have hmin : Nat.min sLen dLen = sLen := Nat.min_eq_left hle
  have hst := run_storeCells_at P g 0 t cs 0 cur.toArray w hg (by simpa using hfit) h1
  simp only [Nat.add_zero, List.take_zero, List.nil_append, Nat.zero_add] at hst
  cases hq : P.info? elem with
  | none => simp [hq] at hs
  | some i =>
    have hi : i.size = k := by simpa [hq] using hs
    cases sp with
    | none =>
      have h0 : cs.length = 0 := by
        rcases Nat.eq_zero_or_pos cs.length with h | h
        · exact h
        · obtain ⟨a, e, _⟩ := hsrc h; cases e
      obtain rfl : cs = [] := List.eq_nil_of_length_eq_zero h0
      simp [Builtin.copy_, run_underlying hu, Builtin.lenOf, Builtin.firstCells, sizeOf, typeInfo, hq, hmin, storeCells]
      simpa [storeCells] using hst
    | some a =>
      have hl : (loadCells a (sLen * k)).run P w = .ok cs.toArray w := by
        rw [← hn]
        refine run_loadCells_list (P := P) w a cs fun j v hj => ?_
        have hpos : 0 < cs.length := by have := (List.getElem?_eq_some_iff.1 hj).1; omega
        obtain ⟨a', e, hh⟩ := hsrc hpos
        cases e
        exact hh j v hj
      simp [Builtin.copy_, run_underlying hu, Builtin.lenOf, Builtin.firstCells, sizeOf, typeInfo, hq, hi, hmin, hl, hst]

theorem wpList_copy_wide {P : Program} {w : World} {ops : Array Oper} {rest : List Oper} {o : Oper} {a : Act} {Q : Exit → Act → World → Prop} (hgd : o.guard = none) (d s : Operand) (dT sT : TypeId)
    (ho : o.op = .call { callee := .builtin .copy, args := #[d, s], argTypes := #[dT, sT] }) (elem : TypeId) (k : Nat) (hu : P.underlying dT = some (.slice elem)) (hsz : (P.info? elem).map (·.size) = some k)
    (g dLen dCap : Nat) (sp : Option Addr) (sLen sCap : Nat) (hd : a.eval d = .slice (some ⟨g, 0, none⟩) dLen dCap) (hs : a.eval s = .slice sp sLen sCap)
    (t : TypeId) (cs cur : List Value) (hg : Row w g t cur) (hn : cs.length = sLen * k) (hle : sLen ≤ dLen) (hfit : cs.length ≤ cur.length) (h1 : ∀ v ∈ cs, v.oneCell' = true)
    (hsrc : 0 < cs.length → ∃ ad, sp = some ad ∧ ∀ j v, cs[j]? = some v → w.cell? (ad.add j) = some v)
    (hK : ∀ w', Row w' g t (cs ++ cur.drop cs.length) → w'.heap.size = w.heap.size → Keeps (fun k => k = g) w w' → wpList P ops Q rest (a.put o.dst (goInt sLen)) w') : wpList P ops Q (o :: rest) a w := by
  refine wpList_plain hgd fun K hK' => ?_
  have hrun := run_copy_wide (P := P) w dT sT o.type elem g dLen dCap sp sLen sCap k cur t cs hu hsz hg hn hle hsrc hfit h1
  unfold Oper.wp
  simp [execOp, ho, resolve, invoke, builtin, hd, hs, hrun, Result.andThen]
  exact hK' _ _ (hK _ (hg.setRow _) (by simp) ((Keeps.refl (fun k => k = g) w).setRow (.inr rfl) _))
end Dp
end Go.Proofs.YtdipojfngdceoaaDoor

/- What arguments hold: the common part. -/
namespace Go.Proofs.YtdipojfngdceoaaDoor
open Go.ChangeShapes Go.WideShapes Go.ChangeAt Go.RowKit

theorem cellsInt : Tryd.prog.cellsOf 3 = 1 := by kernel_rfl
theorem cellsStr : Tryd.prog.cellsOf 9 = 1 := by kernel_rfl
theorem cellsBool : Tryd.prog.cellsOf 4 = 1 := by kernel_rfl

namespace Dp
theorem exists_list {α : Type} {P : Nat → α → Prop} : ∀ n, (∀ i, i < n → ∃ o, P i o) → ∃ l : List α, l.length = n ∧ ∀ i (h : i < l.length), P i l[i]
  | 0, _ => ⟨[], rfl, fun i h => absurd h (by simp)⟩
  | n + 1, h => by
    obtain ⟨l, hl, hp⟩ := exists_list n (fun i hi => h i (by omega))
    obtain ⟨o, ho⟩ := h n (by omega)
    refine ⟨l ++ [o], by simp [hl], fun i hi => ?_⟩
    by_cases hin : i < l.length
    · rw [List.getElem_append_left hin]; exact hp i hin
    · have : i = n := by simp at hi; omega
      subst this
      rw [List.getElem_append_right (by omega)]; simpa [hl] using ho
theorem five {α : Type} {l : List α} (h : l.length = 5) : ∃ a b c d e, l = [a, b, c, d, e] := by
  match l, h with
  | [a, b, c, d, e], _ => exact ⟨a, b, c, d, e, rfl⟩
theorem add_off (b o i : Nat) : (⟨b, o, none⟩ : Addr).add i = ⟨b, o + i, none⟩ := by unfold Addr.add; split <;> simp_all
theorem add_add (a : Addr) (i j : Nat) : (a.add i).add j = a.add (i + j) := by
  unfold Addr.add
  by_cases hi : i = 0
  · subst hi; simp
  · by_cases hj : j = 0
    · subst hj; simp
    · rw [if_neg hj, if_neg hi, if_neg (show ¬ i + j = 0 by omega)]
      simp [Nat.add_assoc]
theorem mapM_at {α β : Type} {f : α → Option β} : ∀ (l : List α) (cs : List β), l.mapM f = some cs → ∀ j (h : j < l.length), f l[j] = cs[j]?
  | [], _, _, j, h => absurd h (by simp)
  | x :: l, cs, h, j, hj => by
    rw [List.mapM_cons] at h
    simp only [Option.bind_eq_bind, Option.bind_eq_some_iff] at h
    obtain ⟨y, hy, ys, hys, hcs⟩ := h
    have hcs' : cs = y :: ys := by simpa using hcs.symm
    subst hcs'
    cases j with
    | zero => exact hy
    | succ j => exact mapM_at l ys hys j (by simpa using hj)
theorem cells_at {w : World} {base : Nat} {a : Addr} {n : Nat} {cs : List Value} (h : w.cells? base a n = some cs) (j : Nat) (hj : j < n) : w.cell? (a.add j) = cs[j]? := by
  unfold World.cells? at h
  split at h
  · have := mapM_at _ _ h j (by simpa using hj)
    simpa using this
  · exact absurd h (by simp)
theorem bulkAll_length {H : Type} : ∀ l : List (DataW H), l.length ≤ Rows.uptoBulkAll l
  | [] => Nat.le_refl _
  | d :: l => by
    have := bulkAll_length l
    have h1 : 1 ≤ Rows.uptoBulk d := by
      cases d
      case lit x => cases x <;> simp only [Rows.uptoBulk] <;> omega
      all_goals (simp only [Rows.uptoBulk]; try omega)
    simp only [List.length_cons, Rows.uptoBulkAll]; omega
theorem bulkAll_mem {H : Type} {d : DataW H} : ∀ {l : List (DataW H)}, d ∈ l → Rows.uptoBulk d ≤ Rows.uptoBulkAll l
  | x :: l, h => by
    simp only [List.mem_cons] at h
    simp only [Rows.uptoBulkAll]
    rcases h with rfl | h
    · omega
    · have := bulkAll_mem h; omega
end Dp

end Go.Proofs.YtdipojfngdceoaaDoor

/- What a list of moves holds. -/
namespace Go.Proofs.YtdipojfngdceoaaDoor
open Go.ChangeShapes Go.WideShapes Go.ChangeAt Go.RowKit

theorem cellsMove : Tryd.prog.cellsOf 69 = 2 := by kernel_rfl

section
variable {H : Type} {enc : TypeId × Value → H} {W : World} {fuel : Nat} {v : Value} {y : DataW H × List MemPlace}

theorem two {α : Type} {l : List α} (h : l.length = 2) : ∃ a b, l = [a, b] := by
  match l, h with
  | [a, b], _ => exact ⟨a, b, rfl⟩

theorem move_of {cs : List Value} (h : DataW.trod enc Tryd.prog W 0 (fun _ => true) true fuel 69 cs = some y) :
    ∃ m : Int × Bool, cs = [.int .i64 m.1, .bool m.2] := by
  obtain ⟨xs, n, _, rfl, hl, hlen, hf⟩ := DataW.trod_struct Tryd.underlying69 h
  rw [cellsMove] at hl
  obtain ⟨c0, c1, rfl⟩ := two hl
  obtain ⟨y0, y1, rfl⟩ := two (show xs.length = 2 from hlen)
  have f0 : DataW.trod enc Tryd.prog W 0 (fun _ => true) true n 3 [c0] = some y0 := by
    have h : DataW.trod enc Tryd.prog W 0 (fun _ => true) true n 3 (List.take (Tryd.prog.cellsOf 3) (List.drop 0 [c0, c1])) = some y0 := hf 0 _ rfl
    rw [cellsInt] at h
    exact h
  have f1 : DataW.trod enc Tryd.prog W 0 (fun _ => true) true n 4 [c1] = some y1 := by
    have h : DataW.trod enc Tryd.prog W 0 (fun _ => true) true n 4 (List.take (Tryd.prog.cellsOf 4) (List.drop 1 [c0, c1])) = some y1 := hf 1 _ rfl
    rw [cellsBool] at h
    exact h
  obtain ⟨k, e0, _, _⟩ := DataW.trod_int Tryd.underlying3 f0
  obtain ⟨q, e1, _⟩ := DataW.trod_bool Tryd.underlying4 f1
  obtain rfl : c0 = .int .i64 k := by simpa using e0
  obtain rfl : c1 = .bool q := by simpa using e1
  exact ⟨(k, q), rfl⟩

theorem moves_of (h : DataW.trod enc Tryd.prog W 0 (fun _ => true) true fuel 61 [v] = some y) (hk : Rows.uptoBulk y.1 ≤ 1048576) :
    ∃ ms : List (Int × Bool), Dp.Moves W v ms := by
  rcases DataW.trod_slice Tryd.underlying61 h with ⟨hcs, rfl⟩ | ⟨a, len, cap, elems, rest, n, _, hcs, rfl, _, hl, hm, hlen, hel, _, _⟩
  · obtain rfl : v = .slice none 0 0 := by simpa using hcs
    exact ⟨[], 0, 0, none, 0, rfl, by simp, fun e => absurd rfl e, fun i hi => absurd hi (by simp)⟩
  · obtain rfl : v = .slice (some a) len cap := by simpa using hcs
    have hb : len ≤ 1048576 := by
      have h1 := Dp.bulkAll_length (elems.map (·.1))
      rw [List.length_map] at h1
      simp only [Rows.uptoBulk] at hk; omega
    by_cases h0 : len = 0
    · subst h0
      exact ⟨[], 0, 0, some a, cap, rfl, by simp, fun e => absurd rfl e, fun i hi => absurd hi (by simp)⟩
    · have each : ∀ i, i < len → ∃ m : Int × Bool, ∀ j, j < 2 → W.cell? (a.add (i * 2 + j)) = ([.int .i64 m.1, .bool m.2] : List Value)[j]? := by
        intro i hi
        have he := hel i hi
        rw [cellsMove, List.getElem?_eq_getElem (by omega), Option.bind_eq_some_iff] at he
        obtain ⟨cs, hcs, ht⟩ := he
        obtain ⟨o, rfl⟩ := move_of ht
        refine ⟨o, fun j hj => ?_⟩
        have hc := Dp.cells_at hcs j hj
        rw [← hc]
        congr 1
        exact (Dp.add_add a (i * 2) j).symm
      obtain ⟨ms, hol, hms⟩ := Dp.exists_list len each
      obtain ⟨b, off, spot⟩ := a
      have hc0 : W.cell? ((⟨b, off, spot⟩ : Addr).add 0) = some (.int .i64 (ms[0]'(by omega)).1) := hms 0 (by omega) 0 (by omega)
      have hspot : spot = none := by simpa [Addr.add] using World.cell?_spot hc0
      subst hspot
      refine ⟨ms, b, off, some ⟨b, off, none⟩, cap, by rw [hol], by omega, fun _ => rfl, fun i hi => ⟨?_, ?_⟩⟩
      · have h := hms i hi 0 (by omega)
        rw [Dp.add_off] at h
        exact h
      · have h := hms i hi 1 (by omega)
        rw [Dp.add_off] at h
        exact h
end
end Go.Proofs.YtdipojfngdceoaaDoor

/- What the listed variable holds: the error that a witness is given up with. -/
namespace Go.Proofs.YtdipojfngdceoaaDoor
open Go.ChangeShapes Go.WideShapes Go.RowKit

theorem gErr : Tryd.prog.globalNamed "deponent/parts.ErrWrong" = some 0 := by kernel_rfl
theorem tErrG : (Tryd.prog.globals[0]?).map (·.type) = some 135 := by kernel_rfl
theorem starErr : "*" ++ "errors.errorString" = "*errors.errorString" := by decide
theorem rowErr (u : TypeId) (h : Tryd.prog.typeName? 3 u = some "*errors.errorString") : u = 167 :=
  typeName_ptr_named (nm := "errors.errorString") (by rw [starErr]; kernel_rfl) (by kernel_rfl) (by decide) u (by rw [starErr]; exact h)

theorem cellsErrS : Tryd.prog.cellsOf 193 = 1 := by kernel_rfl
theorem cellsStrS : Tryd.prog.cellsOf 9 = 1 := by kernel_rfl

set_option maxRecDepth 100000 in
theorem err_of_laid {W : World} (h : laidMetH Tryd.prog [("deponent/parts.ErrWrong", Rows.laid_deponent_parts_ErrWrong)] W) : ∃ eb, Dp.ErrAt W eb := by
  have h' : laidMet Tryd.prog [("deponent/parts.ErrWrong", Rows.laid_deponent_parts_ErrWrong)] W := h
  obtain ⟨ps, ⟨g0, t0, cs0, f0, p0, q0, hg0, ht0, hv0, hd0, hq, e0⟩, hnd, hrows⟩ := h'
  obtain rfl := Option.some.inj (gErr.symm.trans hg0)
  obtain rfl := Option.some.inj (tErrG.symm.trans ht0)
  have hq' : q0 = [] := hq
  subst hq'
  subst e0
  obtain ⟨l0⟩ := cs0
  have ok0 : ∀ u v, l0 = [.iface u v] → Value.okWide Tryd.prog W .any 0 u v := fun u v e => by
    subst e
    exact (hrows 0 0 (by simp [MemPlace.row])).2 u v (by simpa using World.var?_cell hg0 hv0 0)
  obtain ⟨a0, s0, rfl, hc0, hs0, hz0, rfl⟩ := errorString_of_trod Tryd.underlying135 rowErr Tryd.underlying167 Tryd.underlying193 rfl rfl Tryd.underlying9 cellsErrS cellsStrS hd0 ok0
  exact ⟨a0, by have := World.var?_cell hg0 hv0 0; simpa [Dp.ErrAt] using this⟩
end Go.Proofs.YtdipojfngdceoaaDoor
