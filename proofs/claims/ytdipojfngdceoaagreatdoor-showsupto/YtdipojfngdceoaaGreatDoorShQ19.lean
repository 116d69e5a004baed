/- Steps on the way: BuildPart, EqInts, CopyHead, OwnRow2, RegionPair, RegionCall. -/
import Derived.Test.YtdipojfngdceoaaGreatDoorShQ01
import Derived.Test.YtdipojfngdceoaaGreatDoorShQ03
import Derived.Test.YtdipojfngdceoaaGreatDoorShQ09
import Derived.Test.YtdipojfngdceoaaGreatDoorShQ14
import Derived.Test.YtdipojfngdceoaaGreatDoorShQ18
import Derived.Test.YtdipojfngdceoaaGreatDoorProg
import Derived.WalkKit
import Derived.ChangeKeysEq
import Derived.Laws.StructEq
namespace Go.Proofs.YtdipojfngdceoaaGreatDoor
open Go.RowKit
theorem zeroMem : (Tryz.prog.info? 105).map (fun i => i.zero) = some (some (.agg (Dp.memCells (.slice none 0 0) (List.replicate 256 0)).toArray)) := by kernel_rfl
theorem sizeMem : (Tryz.prog.info? 105).map (·.size) = some 257 := by kernel_rfl
theorem buildMach (parts : Array (Nat × Value)) (w : World) (cs : Array Value) (h : Instr.fill ((#[(0, 12), (12, 257)] : Array (Nat × Nat))[·]?) (Dp.stateCells Dp.zeroCs ++ Dp.memCells (.slice none 0 0) (List.replicate 256 0)).toArray parts.toList = some cs) : (Instr.build 107 parts).run Tryz.prog w = .ok (.agg cs) w := by
 have e : (Instr.build 107 parts).run Tryz.prog w = (match Instr.fill ((#[(0, 12), (12, 257)] : Array (Nat × Nat))[·]?) (Dp.stateCells Dp.zeroCs ++ Dp.memCells (.slice none 0 0) (List.replicate 256 0)).toArray parts.toList with
  | some cells => (pure (.agg cells) : Sem Value)
  | _ => stuck "build: no such field, or a part of the wrong size").run Tryz.prog w := by kernel_rfl
 rw [e, h]
 rfl
theorem buildMem (w : World) : (Instr.build 105 #[]).run Tryz.prog w = .ok (.agg (Dp.memCells (.slice none 0 0) (List.replicate 256 0)).toArray) w := by kernel_rfl
namespace Dp
theorem eqItems_same {P : Program} (w : World) (d : Nat) (e : TypeId) (he : P.underlying e = some (.int .i64)) (hagg : (isAgg e).run P w = .ok false w) (l : List Int) : ∀ is : List Nat, (∀ i ∈ is, i < l.length) → (Op.eqItems (d + 1) e 1 (regCells l).toArray (regCells l).toArray is).run P w = .ok true w
 | [], _ => by simp [Op.eqItems]
 | i :: is, h => by
  have hi : i < l.length := h i (by simp)
  have hp : (part e (regCells l).toArray (i * 1)).run P w = .ok (.int .i64 l[i]) w := by
   have hx : (regCells l).toArray[i * 1]? = some (.int .i64 l[i]) := by simp [regCells, hi]
   simp only [part, Sem.run_bind, hagg, Result.andThen_ok, Bool.false_eq_true, if_false, hx, Sem.run_pure]
  have hq : (Op.equalIn (d + 1) e (.int .i64 l[i]) (.int .i64 l[i])).run P w = .ok true w := by
   rw [run_equalIn_int w d e .i64 .i64 _ _ he]; simp
  simp only [Op.eqItems, Sem.run_bind, hp, hq, Result.andThen_ok, Bool.not_true, Bool.false_eq_true, if_false]
  exact eqItems_same w d e he hagg l is (fun j hj => h j (by simp [hj]))
end Dp
set_option maxRecDepth 100000 in
theorem equalRegs (l : List Int) (hl : l.length = 8) (w : World) : (Op.equalIn 10000 72 (.agg (Dp.regCells l).toArray) (.agg (Dp.regCells l).toArray)).run Tryz.prog w = .ok true w := by
 obtain ⟨i, hi, _⟩ := info_parts infoInt
 rw [run_equalIn_array w 9999 _ _ Tryz.underlying72 hi]
 have hc : Tryz.prog.cellsOf 3 = 1 := by kernel_rfl
 rw [hc]
 exact Dp.eqItems_same w 9998 3 Tryz.underlying3 (by rfl) l _ (fun j hj => by rw [hl]; simpa using hj)
end Go.Proofs.YtdipojfngdceoaaGreatDoor

namespace Go.Proofs.YtdipojfngdceoaaGreatDoor
namespace Dp
open Go.RowKit
theorem wpList_copy_head {P : Program} {w : World} {ops : Array Oper} {rest : List Oper} {o : Oper} {a : Act} {Q : Exit → Act → World → Prop} (hgd : o.guard = none) (d s : Operand) (dT sT : TypeId)
  (ho : o.op = .call { callee := .builtin .copy, args := #[d, s], argTypes := #[dT, sT] }) (elem : TypeId) (hu : P.underlying dT = some (.slice elem)) (hsz : (P.info? elem).map (·.size) = some 1)
  (g dLen dCap : Nat) (sp : Option Addr) (sLen sCap : Nat) (hd : a.eval d = .slice (some ⟨g, 0, none⟩) dLen dCap) (hs : a.eval s = .slice sp sLen sCap)
  (t : TypeId) (cs cur : List Value) (hg : Row w g t cur) (hn : cs.length = sLen) (hle : sLen ≤ dLen) (hfit : cs.length ≤ cur.length) (h1 : ∀ v ∈ cs, v.oneCell' = true)
  (hsrc : 0 < cs.length → ∃ ad, sp = some ad ∧ ∀ j v, cs[j]? = some v → w.cell? (ad.add j) = some v)
  (hK : ∀ w', Row w' g t (cs ++ cur.drop cs.length) → w'.heap.size = w.heap.size → Keeps (fun k => k = g) w w' → wpList P ops Q rest (a.put o.dst (goInt cs.length)) w') : wpList P ops Q (o :: rest) a w := by
 have hmin : Nat.min sLen dLen = sLen := Nat.min_eq_left hle
 by_cases h0 : cs.length = 0
 ·obtain rfl : cs = [] := List.eq_nil_of_length_eq_zero h0
  refine wpList_copy_nothing hgd d s dT sT ho elem hu hsz _ sp dLen dCap sLen sCap hd hs (by rw [hmin]; simpa using hn.symm) ?_
  exact hK w hg rfl (Keeps.refl _ _)
 ·obtain ⟨ad, rfl, hsr⟩ := hsrc (by omega)
  refine wpList_copy_own hgd d s dT sT ho elem hu hsz g 0 dLen dCap ad sLen sCap hd hs cur.toArray t hg cs (by rw [hmin]; exact hn) hsr (by simpa using hfit) h1 ?_
  have hr := hg.setRow (cs ++ cur.drop cs.length)
  have e : (cur.toArray.toList.take 0 ++ (cs ++ cur.toArray.toList.drop (0 + cs.length))) = cs ++ cur.drop cs.length := by simp
  rw [e]
  exact hK _ hr (by simp) ((Keeps.refl (fun k => k = g) w).setRow (.inr rfl) _)
end Dp
end Go.Proofs.YtdipojfngdceoaaGreatDoor

namespace Go.Proofs.YtdipojfngdceoaaGreatDoor
namespace Dp
open Go.RowKit
theorem run_append_Own2 {P : Program} (w : World) (t ty e : TypeId) (z : Value) (bytes : Nat) (ht : P.underlying t = some (.slice e)) (hinfo : (P.info? e).map (fun i => (i.zero, i.size, i.bytes)) = some (some z, 1, bytes)) (hz1 : z.cells.size = 1)
  (v : Value) (xs : List Value) (hown : Own w e v xs) (a : Addr) (c : Nat) (news : List Value) (hnews : ∀ j u, news[j]? = some u → w.cell? (a.add j) = some u) (h1 : ∀ u ∈ news, u.oneCell' = true) (hpos : 0 < news.length)
  (h63 : xs.length + news.length ≤ maxLen) (hbytes : (xs.length + news.length) * bytes ≤ 140737488355328) :
  ∃ v' w', (Builtin.append_ #[t, t] ty #[v, .slice (some a) news.length c]).run P w = .ok v' w' ∧ Own w' e v' (xs ++ news) ∧ Keeps (fun k => v.ownBlock = some k) w w' ∧
   (v'.ownBlock = v.ownBlock ∧ w'.heap.size = w.heap.size ∨ v'.ownBlock = some w.heap.size ∧ w'.heap.size = w.heap.size + 1 ∧ Keeps (fun _ => False) w w') := by
 obtain ⟨i, hi, hz, hsize, hby⟩ := info_parts hinfo
 subst hby
 have hsmall : xs.length + news.length ≤ 9223372036854775807 := by simp only [maxLen] at h63; omega
 have hl : news.length = news.length * i.size := by rw [hsize, Nat.mul_one]
 have grown : ∀ old : Nat, Own (w.drew.alloc (.cells (xs.toArray ++ news.toArray ++ Builtin.zeroCells z.cells (grownCap w (xs.length + news.length) old e - (xs.length + news.length))) e)) e
    (.slice (some ⟨w.heap.size, 0, none⟩) (xs.length + news.length) (grownCap w (xs.length + news.length) old e)) (xs ++ news) := by
  intro old
  have hge := grownCap_ge w (xs.length + news.length) old e
  have hcm : grownCap w (xs.length + news.length) old e ≤ maxLen := grownCap_le_maxLen w _ old e h63
  refine .inr ⟨w.heap.size, (Builtin.zeroCells z.cells (grownCap w (xs.length + news.length) old e - (xs.length + news.length))).toList, ?_, ?_, ?_⟩
  ·rw [zeroCells_length z hz1, List.length_append]; congr 1; omega
  ·have := heap_alloc_new w.drew (.cells (xs.toArray ++ news.toArray ++ Builtin.zeroCells z.cells (grownCap w (xs.length + news.length) old e - (xs.length + news.length))) e)
   unfold Row; rw [show w.heap.size = w.drew.heap.size from rfl, this]; simp
  ·rw [zeroCells_length z hz1, List.length_append]; omega
 rcases hown with ⟨rfl, rfl⟩ | ⟨g, tail, rfl, hr, hm⟩
 ·have hrun := run_append_nil (P := P) w t ty e i z ht hi hz a news.length c news hl hnews hpos (by simp only [List.length_nil, Nat.zero_add] at hsmall; omega) (by simp only [List.length_nil, Nat.zero_add] at hbytes; omega)
  have hgr := grown 0
  simp only [List.length_nil, Nat.zero_add, List.nil_append, Array.empty_append] at hgr ⊢
  exact ⟨_, _, hrun, hgr, (Keeps.refl _ _).drew.alloc _, .inr ⟨rfl, by simp, (Keeps.refl _ _).drew.alloc _⟩⟩
 ·by_cases hroom : xs.length + news.length ≤ xs.length + tail.length
  ·have hrun := run_append_room (P := P) w t ty e i ht hi g xs.length (xs.length + tail.length) (xs ++ tail).toArray hr a news.length c news hl hnews h1 hroom (by rw [hsize]; simp; omega)
   refine ⟨_, _, hrun, .inr ⟨g, tail.drop news.length, ?_, ?_, ?_⟩, (Keeps.refl (fun k => Value.ownBlock (.slice (some ⟨g, 0, none⟩) xs.length (xs.length + tail.length)) = some k) w).setRow (.inr rfl) _, .inl ⟨rfl, by simp⟩⟩
   ·rw [List.length_append, List.length_drop]; congr 1; omega
   ·have h := Row.setRow hr (List.take (xs.length * i.size) (xs ++ tail).toArray.toList ++ news ++ List.drop (xs.length * i.size + news.length) (xs ++ tail).toArray.toList)
    have e1 : List.take (xs.length * i.size) (xs ++ tail).toArray.toList ++ news ++ List.drop (xs.length * i.size + news.length) (xs ++ tail).toArray.toList = xs ++ news ++ tail.drop news.length := by
     rw [hsize, Nat.mul_one]; simp
    rw [e1] at h ⊢; exact h
   ·rw [List.length_append, List.length_drop]; omega
  ·have hrun := run_append_grow (P := P) w t ty e i z ht hi hz ⟨g, 0, none⟩ xs.length (xs.length + tail.length) xs (by rw [hsize, Nat.mul_one]) (by
     intro j u hj
     have e1 := add_zero_off g j
     have hlt : j < xs.length := (List.getElem?_eq_some_iff.1 hj).1
     rw [e1, hr.cell, List.getElem?_append_left hlt]; exact hj) a news.length c news hl hnews (by omega) (by omega) (growslice_fits (by omega) hbytes)
   exact ⟨_, _, hrun, grown _, (Keeps.refl _ _).drew.alloc _, .inr ⟨rfl, by simp, (Keeps.refl _ _).drew.alloc _⟩⟩
theorem wpList_append_Own2 {P : Program} {w : World} {ops : Array Oper} {rest : List Oper} {o : Oper} {a : Act} {Q : Exit → Act → World → Prop} (hgd : o.guard = none) (s x : Operand) (t : TypeId)
  (ho : o.op = .call { callee := .builtin .append, args := #[s, x], argTypes := #[t, t] }) (e : TypeId) (z : Value) (bytes : Nat) (ht : P.underlying t = some (.slice e)) (hinfo : (P.info? e).map (fun i => (i.zero, i.size, i.bytes)) = some (some z, 1, bytes)) (hz1 : z.cells.size = 1)
  (v : Value) (xs : List Value) (hs : a.eval s = v) (hown : Own w e v xs) (ad : Addr) (m c : Nat) (news : List Value) (hx : a.eval x = .slice (some ad) m c) (hl : news.length = m) (hnews : ∀ j u, news[j]? = some u → w.cell? (ad.add j) = some u) (h1 : ∀ u ∈ news, u.oneCell' = true) (hpos : 0 < m)
  (h63 : xs.length + m ≤ maxLen) (hbytes : (xs.length + m) * bytes ≤ 140737488355328)
  (h : ∀ v' w', Own w' e v' (xs ++ news) → Keeps (fun k => v.ownBlock = some k) w w' → Hid (v'.ownBlock = v.ownBlock ∧ w'.heap.size = w.heap.size ∨ v'.ownBlock = some w.heap.size ∧ w'.heap.size = w.heap.size + 1 ∧ Keeps (fun _ => False) w w') → wpList P ops Q rest (a.put o.dst v') w') :
  wpList P ops Q (o :: rest) a w := by
 refine wpList_plain hgd fun K hK => ?_
 subst hl
 obtain ⟨v', w', hr, h2, h3, h4⟩ := run_append_Own2 (P := P) w t o.type e z bytes ht hinfo hz1 v xs hown ad c news hnews h1 hpos h63 hbytes
 unfold Oper.wp execOp
 simp only [ho, resolve, invoke, builtin, Sem.run_bind, Sem.run_pure, Result.andThen_ok, List.map_toArray, List.map_cons, List.map_nil, hs, hx, hr]
 exact hK _ _ (h v' w' h2 h3 h4)
end Dp
end Go.Proofs.YtdipojfngdceoaaGreatDoor

namespace Go.Proofs.YtdipojfngdceoaaGreatDoor
namespace Dp
open Go
section
variable {P : Program} {md : Region.Mode} {ops : Array Oper} {Q : Exit → Act → World → Prop} {S : World → Prop} {n : Nat}
theorem wpAnyL_both (i j : Nat) {oi oj : Oper} {fuel : Nat} {listed : Array Bool} {a : Act} {w : World} (hi : ops[i]? = some oi) (hj : ops[j]? = some oj) (hr : Region.ready md ops listed = [i, j]) (hgi : Region.wanted oi (yielded ops a.tmps) = true) (hgj : Region.wanted oj (yielded ops a.tmps) = true)
  (h1 : ∀ K : Act → World → Prop, (∀ a' w', (i < n → S w') ∧ wpAnyL P md ops Q S n fuel (listed.setIfInBounds i true) a' w' → K a' w') → oi.wp P a w K Q)
  (h2 : ∀ K : Act → World → Prop, (∀ a' w', (j < n → S w') ∧ wpAnyL P md ops Q S n fuel (listed.setIfInBounds j true) a' w' → K a' w') → oj.wp P a w K Q) : wpAnyL P md ops Q S n (fuel + 1) listed a w := by
 refine ⟨fun h0 => (by rw [hr] at h0; cases h0), fun k hk => ?_⟩
 rw [hr] at hk
 simp only [List.mem_cons, List.not_mem_nil, or_false] at hk
 rcases hk with rfl | rfl
 ·unfold wpOp
  simp only [hi, hgi, if_true]
  exact .inl (h1 _ (fun _ _ h => h))
 ·unfold wpOp
  simp only [hj, hgj, if_true]
  exact .inl (h2 _ (fun _ _ h => h))
end
end Dp
end Go.Proofs.YtdipojfngdceoaaGreatDoor

namespace Go.Proofs.YtdipojfngdceoaaGreatDoor
namespace Dp
open Go
section
variable {P : Program} {md : Region.Mode} {ops : Array Oper} {Q : Exit → Act → World → Prop} {S : World → Prop} {n : Nat}
def Tells (P : Program) (ops : Array Oper) (S : World → Prop) (o : Oper) (v : Value) (a : Act) : Prop :=
 Region.wanted o (yielded ops a.tmps) = true ∧ ∀ w, S w → ∃ f args, (execOp a.eval o).run P w = .ok (.enter f args) w ∧ Calls P f args w fun e w' => e = .returned v ∧ w' = w
theorem Tells.same {o : Oper} {v : Value} {a a' : Act} (h : Tells P ops S o v a) (he : execOp a'.eval o = execOp a.eval o) (hw : Region.wanted o (yielded ops a'.tmps) = Region.wanted o (yielded ops a.tmps)) : Tells P ops S o v a' := by
 unfold Tells
 rw [he, hw]
 exact h
theorem Tells.op {i : Nat} {o : Oper} {v : Value} {a : Act} (hi : ops[i]? = some o) (hy : Tells P ops S o v a) {K : Act → World → Prop} {w : World} (hS : S w) (h : K (a.put o.dst v) w) : wpOp P ops Q i K a w := by
 obtain ⟨hw, hv⟩ := hy
 obtain ⟨f, args, hr, hc⟩ := hv w hS
 unfold wpOp
 simp only [hi, hw, if_true, Oper.wp, hr, Oper.upon]
 refine .inl (hc.mono ?_)
 rintro e w' ⟨rfl, rfl⟩
 exact h
theorem Tells.past {j : Nat} {oi oj : Oper} {v : Value} (hj : ops[j]? = some oj) (hap : oi.apart ops oj = true) (hsi : ∀ cs b, oi.op ≠ .select cs b) (hsj : ∀ cs b, oj.op ≠ .select cs b)
  (hQ : ∀ c a w, Q (.panic c) (a.put oi.dst v) w → Q (.panic c) a w) {K : Act → World → Prop} {a : Act} {w : World} (hy : Tells P ops S oi v a) (h : wpOp P ops Q j K (a.put oi.dst v) w) :
  wpOp P ops Q j (fun a' w' => Tells P ops S oi v a' ∧ K (a'.put oi.dst v) w') a w := by
 obtain ⟨h1, h2, h3⟩ := Oper.apart_spec hap
 have stays : ∀ b : Act, Tells P ops S oi v b → ∀ u, Tells P ops S oi v (b.put oj.dst u) := fun b hb u => hb.same (execOp_put oi hsi b oj.dst u h3) (wanted_put oi b oj.dst u h3)
 have turn : ∀ (b : Act) (u : Value) (w' : World), Tells P ops S oi v b → K ((b.put oi.dst v).put oj.dst u) w' → Tells P ops S oi v (b.put oj.dst u) ∧ K ((b.put oj.dst u).put oi.dst v) w' := fun b u w' hb hk => ⟨stays b hb u, by rw [← Act.put_comm b v u h2]; exact hk⟩
 unfold wpOp at h ⊢
 simp only [hj] at h ⊢
 rw [wanted_put oj a oi.dst v h1] at h
 by_cases hw : Region.wanted oj (yielded ops a.tmps) = true
 ·simp only [hw, if_true] at h ⊢
  rcases h with h | ⟨hasks, hlets⟩
  ·left
   unfold Oper.wp at h ⊢
   rw [execOp_put oj hsj a oi.dst v h1] at h
   match (execOp a.eval oj).run P w, h with
   | .ok (.value u) w', h => exact turn a u w' hy h
   | .ok .skip w', h => exact turn a undef w' hy h
   | .ok (.defer d) w', h =>
    have hd : Tells P ops S oi v { a with defers := d :: a.defers } := hy.same rfl rfl
    refine turn { a with defers := d :: a.defers } undef w' hd ?_
    simpa only [Oper.upon, Act.put_defers] using h
   | .ok (.enter f args) w', h =>
    refine Calls.mono h fun e w'' he => ?_
    cases e with
    | returned u => exact turn a u w'' hy he
    | panicked c => exact hQ _ _ _ he
    | outgrown => exact he
   | .ok (.row row args) w', h => exact Rows.mono h fun u w'' he => turn a u w'' hy he
   | .halt x w', h =>
    cases x <;> simp only [Oper.upon] at h ⊢
    case panic u => exact hQ _ _ _ h
  ·right
   refine ⟨?_, hlets⟩
   unfold Oper.asks at hasks ⊢
   rw [execOp_put oj hsj a oi.dst v h1] at hasks
   exact hasks
 ·simp only [hw] at h ⊢
  exact turn a undef w hy h
theorem wpAnyL_firstC {i : Nat} {oi : Oper} {v : Value} {D : List Nat} (hi : ops[i]? = some oi) (hsel : ∀ (j : Nat) (o : Oper) cs b, ops[j]? = some o → o.op ≠ .select cs b) (hnD : ∀ k, n ≤ k → k < ops.size → k ∈ D)
  (hD : ∀ k ∈ D, ∃ ok, ops[k]? = some ok ∧ ∃ e ∈ ok.after, Region.binds md e = true ∧ (e.on = i ∨ e.on ∈ D))
  (hQ : ∀ c a w, Q (.panic c) (a.put oi.dst v) w → Q (.panic c) a w) :
  ∀ (fuel : Nat) (listed : Array Bool) (a : Act) (w : World), (∀ k ∈ D, listed.getD k true = false) →
   (∀ j oj, ops[j]? = some oj → j ≠ i → listed.getD j true = false → (∀ e ∈ oj.after, Region.binds md e = true → e.on ≠ i) → oi.apart ops oj = true) →
   i ∈ Region.ready md ops listed → Tells P ops S oi v a → S w →
   wpAnyL P md ops Q S n fuel (listed.setIfInBounds i true) (a.put oi.dst v) w → wpAnyL P md ops Q S n (fuel + 1) listed a w := by
 intro fuel
 induction fuel with
 | zero =>
  intro listed a w _ _ hr hy hS H
  refine ⟨fun h => (by rw [h] at hr; cases hr), fun j hj => ?_⟩
  by_cases hji : j = i
  ·subst hji; exact hy.op hi hS ⟨fun _ => hS, H⟩
  ·have := ready_mono hj hji
   rw [H.1] at this
   cases this
 | succ fuel ih =>
  intro listed a w hun hfree hr hy hS H
  refine ⟨fun h => (by rw [h] at hr; cases hr), fun j hj => ?_⟩
  by_cases hji : j = i
  ·subst hji; exact hy.op hi hS ⟨fun _ => hS, H⟩
  ·have h1 := H.2 j (ready_mono hj hji)
   obtain ⟨hjun, oj, hoj, hall⟩ := mem_ready.1 hj
   have hnot : ∀ e ∈ oj.after, Region.binds md e = true → e.on ≠ i := fun e he hb heq => by
    have h1 := hall e he hb
    have h0 := (mem_ready.1 hr).1
    rw [heq] at h1
    rcases Nat.lt_or_ge i listed.size with h' | h'
    ·simp [h'] at h0 h1; rw [h0] at h1; cases h1
    ·simp [Array.getElem?_eq_none h'] at h1
   have hjD : j ∉ D := late_not (mem_ready.1 hr).1 hD hun hj
   have hjs : j < ops.size := (Array.getElem?_eq_some_iff.1 hoj).1
   have hjn : j < n := by
    rcases Nat.lt_or_ge j n with h | h
    ·exact h
    ·exact absurd (hnD j h hjs) hjD
   have h2 := Tells.past hoj (hfree j oj hoj hji hjun hnot) (fun cs b => hsel i oi cs b hi) (fun cs b => hsel j oj cs b hoj) hQ hy h1
   have hset : ∀ k, k ≠ j → listed.getD k true = false → (listed.setIfInBounds j true).getD k true = false := fun k hk h => by rw [getD_set_ne true (Ne.symm hk)]; exact h
   have hfree' : ∀ k ok, ops[k]? = some ok → k ≠ i → (listed.setIfInBounds j true).getD k true = false →
     (∀ e ∈ ok.after, Region.binds md e = true → e.on ≠ i) → oi.apart ops ok = true := fun k ok hk hki hun' hno => by
    refine hfree k ok hk hki ?_ hno
    by_cases hjk : j = k
    ·subst hjk; exact hjun
    ·rw [getD_set_ne true hjk] at hun'; exact hun'
   refine wpOp_mono (fun a' w' h3 => ⟨fun _ => h3.2.1 hjn, ih (listed.setIfInBounds j true) a' w' (fun k hk => hset k (fun e => hjD (e ▸ hk)) (hun k hk)) hfree' (ready_mono hr (Ne.symm hji)) h3.1 (h3.2.1 hjn) ?_⟩) h2
   rw [Array.setIfInBounds_comm _ _ hji]
   exact h3.2.2
theorem wpAnyL_tell (i : Nat) {oi : Oper} {v : Value} {fuel : Nat} {listed : Array Bool} {a : Act} {w : World} (hi : ops[i]? = some oi)
  (hs : (Region.noSelect ops && Region.free md ops listed i && (Region.ready md ops listed).contains i && lateOk md ops listed i n (lateB md ops i)) = true)
  (hQ : ∀ c a w, Q (.panic c) (a.put oi.dst v) w → Q (.panic c) a w) (hg : Region.wanted oi (yielded ops a.tmps) = true) (f : FuncId) (args : Array Value) (he : ∀ wx, S wx → (execOp a.eval oi).run P wx = .ok (.enter f args) wx) (hc : ∀ wx, S wx → Calls P f args wx fun e w' => e = .returned v ∧ w' = wx) (hS : S w)
  (h : wpAnyL P md ops Q S n fuel (listed.setIfInBounds i true) (a.put oi.dst v) w) : wpAnyL P md ops Q S n (fuel + 1) listed a w := by
 simp only [Bool.and_eq_true] at hs
 obtain ⟨⟨⟨hsel, hfr⟩, hrd⟩, hlate⟩ := hs
 unfold lateOk at hlate
 simp only [Bool.and_eq_true, List.all_eq_true] at hlate
 refine wpAnyL_firstC (D := lateB md ops i) hi (Region.noSelect_spec hsel) (fun k h1 h2 => ?_) (fun k hk => ?_) hQ fuel listed a w (fun k hk => ?_) (Region.free_spec hi hfr) (by simpa using hrd) ⟨hg, fun wx hx => ⟨f, args, he wx hx, hc wx hx⟩⟩ hS h
 ·have := hlate.1 k (by simpa using h2)
  simp only [Bool.or_eq_true, decide_eq_true_eq, List.contains_iff_mem] at this
  exact this.elim (fun h => absurd h (by omega)) id
 ·have := (hlate.2 k hk).1
  split at this
  ·rename_i ok hok
   obtain ⟨e, he, hb⟩ := Array.any_eq_true'.1 this
   simp only [Bool.and_eq_true, Bool.or_eq_true, beq_iff_eq] at hb
   exact ⟨ok, hok, e, he, hb.1, hb.2.imp id (fun h => by simpa using h)⟩
  ·cases this
 ·have := (hlate.2 k hk).2
  simpa using this
theorem wpAnyL_true : ∀ (fuel : Nat) (listed : Array Bool) (a : Act) (w : World), wpAny P md ops Q fuel listed a w → wpAnyL P md ops Q (fun _ => True) n fuel listed a w
 | 0, _, _, _, h => h
 | fuel + 1, _, _, _, h => ⟨h.1, fun i hi => wpOp_mono (fun a' w' h' => ⟨fun _ => trivial, wpAnyL_true fuel _ a' w' h'⟩) (h.2 i hi)⟩
end
end Dp
end Go.Proofs.YtdipojfngdceoaaGreatDoor
