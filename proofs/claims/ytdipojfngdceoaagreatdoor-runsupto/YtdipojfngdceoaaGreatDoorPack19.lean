/- Steps on the way: BuildPart, EqInts, CopyHead. -/
import Derived.Test.YtdipojfngdceoaaGreatDoorPack01
import Derived.Test.YtdipojfngdceoaaGreatDoorPack11
import Derived.Test.YtdipojfngdceoaaGreatDoorPack18
import Derived.Test.YtdipojfngdceoaaGreatDoorProg
import Derived.WalkKit
import Derived.ChangeKeysEq
import Derived.Laws.StructEq
/- A struct that is built of one part. -/
namespace Go.Proofs.YtdipojfngdceoaaGreatDoor
open Go.RowKit

namespace Dp
theorem fold_fill (off : Nat) : ∀ (vs pre mid post : List Value) (k : Nat), mid.length = vs.length → pre.length = off + k →
    (vs.zipIdx k).foldl (fun (cs : Array Value) (x : Value × Nat) => cs.setIfInBounds (off + x.2) x.1) (pre ++ mid ++ post).toArray = (pre ++ vs ++ post).toArray
  | [], pre, mid, post, k, h, _ => by
    obtain rfl : mid = [] := by simpa using h
    rfl
  | v :: r, pre, [], post, k, h, _ => by simp at h
  | v :: r, pre, m :: ms, post, k, h, hp => by
    have e : (pre ++ m :: ms ++ post).toArray.setIfInBounds (off + k) v = ((pre ++ [v]) ++ ms ++ post).toArray := by
      rw [← hp, List.setIfInBounds_toArray, List.append_assoc, List.set_append_right _ _ (Nat.le_refl _), Nat.sub_self]
      simp
    rw [List.zipIdx_cons, List.foldl_cons]
    simp only
    rw [e, fold_fill off r (pre ++ [v]) ms post (k + 1) (by simpa using h) (by simp; omega)]
    simp
theorem fill_part (place : Nat → Option (Nat × Nat)) (i off : Nat) (pre mid post vs : List Value) (hpl : place i = some (off, vs.length)) (hm : mid.length = vs.length) (hp : pre.length = off) :
    Instr.fill place (pre ++ mid ++ post).toArray [(i, .agg vs.toArray)] = some (pre ++ vs ++ post).toArray := by
  have hc : (Value.agg vs.toArray).cells = vs.toArray := rfl
  have hs : ¬ (vs.toArray.size ≠ vs.length || decide (off + vs.toArray.size > (pre ++ mid ++ post).toArray.size)) = true := by
    simp; omega
  unfold Instr.fill
  rw [hpl]
  simp only [hc]
  rw [if_neg hs]
  unfold Instr.fill
  congr 1
  rw [← Array.foldl_toList, Array.toList_zipIdx]
  exact fold_fill off vs pre mid post 0 hm (by simpa using hp)
theorem wpList_build_one {P : Program} {w : World} {ops : Array Oper} {rest : List Oper} {o : Oper} {a : Act} {Q : Exit → Act → World → Prop} (hgd : o.guard = none) (t : TypeId) (i : Nat) (x : Operand) (ho : o.op = .build t #[(i, x)]) (u v : Value) (hx : a.eval x = u)
    (hrun : (Instr.build t #[(i, u)]).run P w = .ok v w) (h : Hid True → wpList P ops Q rest (a.put o.dst v) w) : wpList P ops Q (o :: rest) a w := by
  refine wpList_plain hgd fun K hK => ?_
  have e : (execOp a.eval o).run P w = .ok (.value v) w := by
    unfold execOp
    simp only [ho, List.map_toArray, List.map_cons, List.map_nil, hx, Sem.run_bind, hrun, Result.andThen_ok, Sem.run_pure]
  unfold Oper.wp
  rw [e]
  exact hK _ _ (h trivial)
end Dp
theorem zeroMach : (Tryz.prog.info? 107).map (fun i => i.zero) = some (some (.agg (Dp.stateCells Dp.zeroCs ++ Dp.memCells (.slice none 0 0) (List.replicate 256 0)).toArray)) := by kernel_rfl
theorem zeroMem : (Tryz.prog.info? 105).map (fun i => i.zero) = some (some (.agg (Dp.memCells (.slice none 0 0) (List.replicate 256 0)).toArray)) := by kernel_rfl
theorem sizeMem : (Tryz.prog.info? 105).map (·.size) = some 257 := by kernel_rfl
theorem buildMach (parts : Array (Nat × Value)) (w : World) (cs : Array Value) (h : Instr.fill ((#[(0, 12), (12, 257)] : Array (Nat × Nat))[·]?) (Dp.stateCells Dp.zeroCs ++ Dp.memCells (.slice none 0 0) (List.replicate 256 0)).toArray parts.toList = some cs) : (Instr.build 107 parts).run Tryz.prog w = .ok (.agg cs) w := by
  have e : (Instr.build 107 parts).run Tryz.prog w = (match Instr.fill ((#[(0, 12), (12, 257)] : Array (Nat × Nat))[·]?) (Dp.stateCells Dp.zeroCs ++ Dp.memCells (.slice none 0 0) (List.replicate 256 0)).toArray parts.toList with
    | some cells => (pure (.agg cells) : Sem Value)
    | _ => stuck "build: no such field, or a part of the wrong size").run Tryz.prog w := by kernel_rfl
  rw [e, h]
  rfl
theorem buildMem (w : World) : (Instr.build 105 #[]).run Tryz.prog w = .ok (.agg (Dp.memCells (.slice none 0 0) (List.replicate 256 0)).toArray) w := by kernel_rfl

end Go.Proofs.YtdipojfngdceoaaGreatDoor

/- An array of ints is the same as itself. -/
namespace Go.Proofs.YtdipojfngdceoaaGreatDoor
open Go.RowKit

namespace Dp
theorem eqItems_same {P : Program} (w : World) (d : Nat) (e : TypeId) (he : P.underlying e = some (.int .i64)) (hagg : (isAgg e).run P w = .ok false w) (l : List Int) : ∀ is : List Nat, (∀ i ∈ is, i < l.length) → (Op.eqItems (d + 1) e 1 (regCells l).toArray (regCells l).toArray is).run P w = .ok true w
  | [], _ => by simp [Op.eqItems]
  | i :: is, h => by
    have hi : i < l.length := h i (by simp)
    have hp : (part e (regCells l).toArray (i * 1)).run P w = .ok (.int .i64 l[i]) w := by
      have hx : (regCells l).toArray[i * 1]? = some (.int .i64 l[i]) := by simp [regCells, hi]
      simp only [part, Sem.run_bind, hagg, Result.andThen_ok, Bool.false_eq_true, if_false, hx, Sem.run_pure]
    have hq : (Op.equalIn (d + 1) e (.int .i64 l[i]) (.int .i64 l[i])).run P w = .ok true w := by
      rw [run_equalIn_int w d e .i64 .i64 _ _ he]; simp
    simp only [Op.eqItems, Sem.run_bind, hp, hq, Result.andThen_ok, Bool.not_true, Bool.false_eq_true, if_false]
    exact eqItems_same w d e he hagg l is (fun j hj => h j (by simp [hj]))
end Dp
set_option maxRecDepth 100000 in
theorem equalRegs (l : List Int) (hl : l.length = 8) (w : World) : (Op.equalIn 10000 72 (.agg (Dp.regCells l).toArray) (.agg (Dp.regCells l).toArray)).run Tryz.prog w = .ok true w := by
  obtain ⟨i, hi, _⟩ := info_parts infoInt
  rw [run_equalIn_array w 9999 _ _ Tryz.underlying72 hi]
  have hc : Tryz.prog.cellsOf 3 = 1 := by kernel_rfl
  rw [hc]
  exact Dp.eqItems_same w 9998 3 Tryz.underlying3 (by rfl) l _ (fun j hj => by rw [hl]; simpa using hj)

end Go.Proofs.YtdipojfngdceoaaGreatDoor

/- copy onto the head of a row. It holds of every program. -/
namespace Go.Proofs.YtdipojfngdceoaaGreatDoor
namespace Dp
open Go.RowKit

theorem wpList_copy_head {P : Program} {w : World} {ops : Array Oper} {rest : List Oper} {o : Oper} {a : Act} {Q : Exit → Act → World → Prop} (hgd : o.guard = none) (d s : Operand) (dT sT : TypeId)
    (ho : o.op = .call { callee := .builtin .copy, args := #[d, s], argTypes := #[dT, sT] }) (elem : TypeId) (hu : P.underlying dT = some (.slice elem)) (hsz : (P.info? elem).map (·.size) = some 1)
    (g dLen dCap : Nat) (sp : Option Addr) (sLen sCap : Nat) (hd : a.eval d = .slice (some ⟨g, 0, none⟩) dLen dCap) (hs : a.eval s = .slice sp sLen sCap)
    (t : TypeId) (cs cur : List Value) (hg : Row w g t cur) (hn : cs.length = sLen) (hle : sLen ≤ dLen) (hfit : cs.length ≤ cur.length) (h1 : ∀ v ∈ cs, v.oneCell' = true)
    (hsrc : 0 < cs.length → ∃ ad, sp = some ad ∧ ∀ j v, cs[j]? = some v → w.cell? (ad.add j) = some v)
    (hK : ∀ w', Row w' g t (cs ++ cur.drop cs.length) → w'.heap.size = w.heap.size → Keeps (fun k => k = g) w w' → wpList P ops Q rest (a.put o.dst (goInt cs.length)) w') : wpList P ops Q (o :: rest) a w := by
  have hmin : Nat.min sLen dLen = sLen := Nat.min_eq_left hle
  by_cases h0 : cs.length = 0
  · obtain rfl : cs = [] := List.eq_nil_of_length_eq_zero h0
    refine wpList_copy_nothing hgd d s dT sT ho elem hu hsz _ sp dLen dCap sLen sCap hd hs (by rw [hmin]; simpa using hn.symm) ?_
    exact hK w hg rfl (Keeps.refl _ _)
  · obtain ⟨ad, rfl, hsr⟩ := hsrc (by omega)
    refine wpList_copy_own hgd d s dT sT ho elem hu hsz g 0 dLen dCap ad sLen sCap hd hs cur.toArray t hg cs (by rw [hmin]; exact hn) hsr (by simpa using hfit) h1 ?_
    have hr := hg.setRow (cs ++ cur.drop cs.length)
    have e : (cur.toArray.toList.take 0 ++ (cs ++ cur.toArray.toList.drop (0 + cs.length))) = cs ++ cur.drop cs.length := by simp
    rw [e]
    exact hK _ hr (by simp) ((Keeps.refl (fun k => k = g) w).setRow (.inr rfl) _)
end Dp
end Go.Proofs.YtdipojfngdceoaaGreatDoor
