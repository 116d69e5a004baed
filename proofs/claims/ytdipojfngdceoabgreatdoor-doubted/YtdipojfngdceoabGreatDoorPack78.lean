/- Steps on the way: OwnBytes, BuildOne, RegionPair, PureOwn, PureSound, BuildPart. -/
import Derived.Test.YtdipojfngdceoabGreatDoorPack01
import Derived.Test.YtdipojfngdceoabGreatDoorPack04
import Derived.Test.YtdipojfngdceoabGreatDoorPack69
import Derived.Test.YtdipojfngdceoabGreatDoorPack74
import Derived.Test.YtdipojfngdceoabGreatDoorPack76
import Derived.WalkKit
import Derived.WalkSpells
import Derived.Test.YtdipojfngdceoabGreatDoorProg
/- append of bytes onto a slice of the call's own, whatever their type is called. It holds of every program. -/
namespace Go.Proofs.YtdipojfngdceoabGreatDoor
namespace Dp
open Go.RowKit

theorem append_types {P : Program} (w : World) (t t2 ty e e2 : TypeId) (i : TypeInfo) (hi : P.info? e = some i) (ht : P.underlying t = some (.slice e)) (h2 : P.underlying t2 = some (.slice e2)) (base : Option Addr) (n c : Nat) (vx : Value) :
    (Builtin.append_ #[t, t2] ty #[.slice base n c, vx]).run P w = (Builtin.append_ #[t, t] ty #[.slice base n c, vx]).run P w := by
  simp [Builtin.append_, run_underlying ht, run_underlying h2, sizeOf, typeInfo, hi]

theorem wpList_append_bytes {P : Program} {w : World} {ops : Array Oper} {rest : List Oper} {o : Oper} {a : Act} {Q : Exit → Act → World → Prop} (hgd : o.guard = none) (s x : Operand) (t t2 : TypeId)
    (ho : o.op = .call { callee := .builtin .append, args := #[s, x], argTypes := #[t, t2] }) (e e2 : TypeId) (z : Value) (bytes : Nat) (ht : P.underlying t = some (.slice e)) (ht2 : P.underlying t2 = some (.slice e2)) (hinfo : (P.info? e).map (fun i => (i.zero, i.size, i.bytes)) = some (some z, 1, bytes)) (hz1 : z.cells.size = 1)
    (v : Value) (xs : List Value) (hs : a.eval s = v) (hown : Own w e v xs) (vx : Value) (l : List UInt8) (hxv : a.eval x = vx) (hx : Bytes w vx l) (h63 : xs.length + l.length ≤ maxLen) (hbytes : (xs.length + l.length) * bytes ≤ 140737488355328)
    (h : ∀ v' w', Own w' e v' (xs ++ vals l) → Keeps (fun k => v.ownBlock = some k) w w' → Hid (v'.ownBlock = v.ownBlock ∧ w'.heap.size = w.heap.size ∨ v'.ownBlock = some w.heap.size ∧ w'.heap.size = w.heap.size + 1) → wpList P ops Q rest (a.put o.dst v') w') :
    wpList P ops Q (o :: rest) a w := by
  refine wpList_plain hgd fun K hK => ?_
  obtain ⟨b, of, ad, cap, rfl, hl, hne, hc⟩ := hx
  have hr : ∃ v' w', (Builtin.append_ #[t, t2] o.type #[v, .slice ad l.length cap]).run P w = .ok v' w' ∧ Own w' e v' (xs ++ vals l) ∧ Keeps (fun k => v.ownBlock = some k) w w' ∧
      (v'.ownBlock = v.ownBlock ∧ w'.heap.size = w.heap.size ∨ v'.ownBlock = some w.heap.size ∧ w'.heap.size = w.heap.size + 1) := by
    obtain ⟨i0, hi0, _, _, _⟩ := info_parts hinfo
    have happ : (Builtin.append_ #[t, t2] o.type #[v, .slice ad l.length cap]).run P w = (Builtin.append_ #[t, t] o.type #[v, .slice ad l.length cap]).run P w := by
      obtain ⟨av, cv, ev⟩ := hown.isSlice
      rw [ev]
      exact append_types w t t2 o.type e e2 i0 hi0 ht ht2 _ _ _ _
    rw [happ]
    by_cases hn : l = []
    · subst hn
      obtain ⟨i, hi, _, _, _⟩ := info_parts hinfo
      exact ⟨v, w, run_append_Own0 w t o.type e i ht hi v xs hown ad cap, by simpa [vals] using hown, Keeps.refl _ _, .inl ⟨rfl, rfl⟩⟩
    · have hlen : (vals l).length = l.length := vals_length l
      have hpos : 0 < l.length := by cases l with | nil => exact absurd rfl hn | cons x y => simp
      rw [hne hn, ← hlen]
      refine run_append_Own w t o.type e z bytes ht hinfo hz1 v xs hown ⟨b, of, none⟩ cap (vals l) (fun j u hj => ?_) (fun u hu => ?_) (by omega) (by omega) (by rw [hlen]; exact hbytes)
      · have hlt : j < l.length := by have := (List.getElem?_eq_some_iff.1 hj).1; omega
        have hadd : (⟨b, of, none⟩ : Addr).add j = ⟨b, of + j, none⟩ := by unfold Addr.add; split <;> simp_all
        rw [hadd, hc j hlt, ← hj]
        simp [vals, hlt]
      · simp only [vals, List.mem_map] at hu
        obtain ⟨x, _, rfl⟩ := hu
        rfl
  obtain ⟨v', w', hr, h2, h3, h4⟩ := hr
  unfold Oper.wp execOp
  simp only [ho, resolve, invoke, builtin, Sem.run_bind, Sem.run_pure, Result.andThen_ok, List.map_toArray, List.map_cons, List.map_nil, hs, hxv, hr]
  exact hK _ _ (h v' w' h2 h3 h4)
end Dp
end Go.Proofs.YtdipojfngdceoabGreatDoor

/- A struct that is built of one part. It holds of every program. -/
namespace Go.Proofs.YtdipojfngdceoabGreatDoor
open Go.RowKit

namespace Dp
theorem fold_fill (off : Nat) : ∀ (vs pre mid post : List Value) (k : Nat), mid.length = vs.length → pre.length = off + k →
    (vs.zipIdx k).foldl (fun (cs : Array Value) (x : Value × Nat) => cs.setIfInBounds (off + x.2) x.1) (pre ++ mid ++ post).toArray = (pre ++ vs ++ post).toArray
  | [], pre, mid, post, k, h, _ => by
    obtain rfl : mid = [] := by simpa using h
    rfl
  | v :: r, pre, [], post, k, h, _ => by simp at h
  | v :: r, pre, m :: ms, post, k, h, hp => by
    have e : (pre ++ m :: ms ++ post).toArray.setIfInBounds (off + k) v = ((pre ++ [v]) ++ ms ++ post).toArray := by
      rw [← hp, List.setIfInBounds_toArray, List.append_assoc, List.set_append_right _ _ (Nat.le_refl _), Nat.sub_self]
      simp
    rw [List.zipIdx_cons, List.foldl_cons]
    simp only
    rw [e, fold_fill off r (pre ++ [v]) ms post (k + 1) (by simpa using h) (by simp; omega)]
    simp
theorem fill_part (place : Nat → Option (Nat × Nat)) (i off : Nat) (pre mid post vs : List Value) (hpl : place i = some (off, vs.length)) (hm : mid.length = vs.length) (hp : pre.length = off) :
    Instr.fill place (pre ++ mid ++ post).toArray [(i, .agg vs.toArray)] = some (pre ++ vs ++ post).toArray := by
  have hc : (Value.agg vs.toArray).cells = vs.toArray := rfl
  have hs : ¬ (vs.toArray.size ≠ vs.length || decide (off + vs.toArray.size > (pre ++ mid ++ post).toArray.size)) = true := by
    simp; omega
  unfold Instr.fill
  rw [hpl]
  simp only [hc]
  rw [if_neg hs]
  unfold Instr.fill
  congr 1
  rw [← Array.foldl_toList, Array.toList_zipIdx]
  exact fold_fill off vs pre mid post 0 hm (by simpa using hp)
theorem wpList_build_one {P : Program} {w : World} {ops : Array Oper} {rest : List Oper} {o : Oper} {a : Act} {Q : Exit → Act → World → Prop} (hgd : o.guard = none) (t : TypeId) (i : Nat) (x : Operand) (ho : o.op = .build t #[(i, x)]) (u v : Value) (hx : a.eval x = u)
    (hrun : (Instr.build t #[(i, u)]).run P w = .ok v w) (h : Hid True → wpList P ops Q rest (a.put o.dst v) w) : wpList P ops Q (o :: rest) a w := by
  refine wpList_plain hgd fun K hK => ?_
  have e : (execOp a.eval o).run P w = .ok (.value v) w := by
    unfold execOp
    simp only [ho, List.map_toArray, List.map_cons, List.map_nil, hx, Sem.run_bind, hrun, Result.andThen_ok, Sem.run_pure]
  unfold Oper.wp
  rw [e]
  exact hK _ _ (h trivial)
end Dp
end Go.Proofs.YtdipojfngdceoabGreatDoor

/- In a region that draws its order: two operations may come up. It holds of every program. -/
namespace Go.Proofs.YtdipojfngdceoabGreatDoor
namespace Dp
open Go

section
variable {P : Program} {md : Region.Mode} {ops : Array Oper} {Q : Exit → Act → World → Prop} {S : World → Prop} {n : Nat}
theorem wpAnyL_both (i j : Nat) {oi oj : Oper} {fuel : Nat} {listed : Array Bool} {a : Act} {w : World} (hi : ops[i]? = some oi) (hj : ops[j]? = some oj) (hr : Region.ready md ops listed = [i, j]) (hgi : Region.wanted oi (yielded ops a.tmps) = true) (hgj : Region.wanted oj (yielded ops a.tmps) = true)
    (h1 : ∀ K : Act → World → Prop, (∀ a' w', (i < n → S w') ∧ wpAnyL P md ops Q S n fuel (listed.setIfInBounds i true) a' w' → K a' w') → oi.wp P a w K Q)
    (h2 : ∀ K : Act → World → Prop, (∀ a' w', (j < n → S w') ∧ wpAnyL P md ops Q S n fuel (listed.setIfInBounds j true) a' w' → K a' w') → oj.wp P a w K Q) : wpAnyL P md ops Q S n (fuel + 1) listed a w := by
  refine ⟨fun h0 => (by rw [hr] at h0; cases h0), fun k hk => ?_⟩
  rw [hr] at hk
  simp only [List.mem_cons, List.not_mem_nil, or_false] at hk
  rcases hk with rfl | rfl
  · unfold wpOp
    simp only [hi, hgi, if_true]
    exact .inl (h1 _ (fun _ _ h => h))
  · unfold wpOp
    simp only [hj, hgj, if_true]
    exact .inl (h2 _ (fun _ _ h => h))
end
end Dp
end Go.Proofs.YtdipojfngdceoabGreatDoor

/- A machine's own witness is believed: what it shows is heard as it was done. -/
namespace Go.Proofs.YtdipojfngdceoabGreatDoor
namespace Dp

theorem four_at (p r : List UInt8) (x : Int) (n : Nat) (h : isWord x) (hp : p.length = n) : numTo (p ++ (four x ++ r)) n 4 = x := by
  have h1 := numTo_behind p (four x ++ r) 0 4
  rw [Nat.add_zero, hp] at h1
  rw [h1]
  exact numTo_four_back x h r
theorem two_at (p r : List UInt8) (x : Int) (n : Nat) (h : 0 ≤ x ∧ x < 65536) (hp : p.length = n) : numTo (p ++ (two x ++ r)) n 2 = x := by
  have h1 := numTo_behind p (two x ++ r) 0 2
  rw [Nat.add_zero, hp] at h1
  rw [h1]
  exact numTo_two_back x h r
/-- The label, k words of the registers on. -/
theorem label_flat (s : Cs) (root : Int) (r : List UInt8) (r0 r1 r2 r3 r4 r5 r6 r7 : Int) (hr : s.regs = [r0, r1, r2, r3, r4, r5, r6, r7]) : label s root ++ r =
    four s.pc ++ (four s.steps ++ (four s.code ++ ([if s.over then 1 else 0] ++ (four r0 ++ (four r1 ++ (four r2 ++ (four r3 ++ (four r4 ++ (four r5 ++ (four r6 ++ (four r7 ++ (two root ++ r)))))))))))) := by
  unfold label
  rw [hr]
  simp
theorem unlab_label (s : Cs) (root : Int) (r : List UInt8) (hs : s.Ok) (hr : 0 ≤ root ∧ root < 65536) : unlab (label s root ++ r) = s ∧ unroot (label s root ++ r) = root ∧ ((label s root ++ r).getD 12 0).toNat ≤ 1 := by
  have hlen := hs.len
  have hw := hs.regs
  obtain ⟨pc, st, co, ov, regs⟩ := s
  simp only at hlen hw
  match regs, hlen with
  | [r0, r1, r2, r3, r4, r5, r6, r7], _ =>
    have e := label_flat ⟨pc, st, co, ov, [r0, r1, r2, r3, r4, r5, r6, r7]⟩ root r r0 r1 r2 r3 r4 r5 r6 r7 rfl
    rw [e]
    simp only
    have n0 : numTo (four pc ++ (four st ++ (four co ++ (([if ov then 1 else 0] : List UInt8) ++ (four r0 ++ (four r1 ++ (four r2 ++ (four r3 ++ (four r4 ++ (four r5 ++ (four r6 ++ (four r7 ++ (two root ++ r))))))))))))) 0 4 = pc := by
      have h := four_at ([] : List UInt8) (four st ++ (four co ++ (([if ov then 1 else 0] : List UInt8) ++ (four r0 ++ (four r1 ++ (four r2 ++ (four r3 ++ (four r4 ++ (four r5 ++ (four r6 ++ (four r7 ++ (two root ++ r)))))))))))) pc 0 hs.pc rfl
      simpa [List.append_assoc] using h
    have n1 : numTo (four pc ++ (four st ++ (four co ++ (([if ov then 1 else 0] : List UInt8) ++ (four r0 ++ (four r1 ++ (four r2 ++ (four r3 ++ (four r4 ++ (four r5 ++ (four r6 ++ (four r7 ++ (two root ++ r))))))))))))) 4 4 = st := by
      have h := four_at (four pc) (four co ++ (([if ov then 1 else 0] : List UInt8) ++ (four r0 ++ (four r1 ++ (four r2 ++ (four r3 ++ (four r4 ++ (four r5 ++ (four r6 ++ (four r7 ++ (two root ++ r))))))))))) st 4 hs.steps (by simp [four_length])
      simpa [List.append_assoc] using h
    have n2 : numTo (four pc ++ (four st ++ (four co ++ (([if ov then 1 else 0] : List UInt8) ++ (four r0 ++ (four r1 ++ (four r2 ++ (four r3 ++ (four r4 ++ (four r5 ++ (four r6 ++ (four r7 ++ (two root ++ r))))))))))))) 8 4 = co := by
      have h := four_at (four pc ++ four st) (([if ov then 1 else 0] : List UInt8) ++ (four r0 ++ (four r1 ++ (four r2 ++ (four r3 ++ (four r4 ++ (four r5 ++ (four r6 ++ (four r7 ++ (two root ++ r)))))))))) co 8 hs.code (by simp [four_length])
      simpa [List.append_assoc] using h
    have n4 : numTo (four pc ++ (four st ++ (four co ++ (([if ov then 1 else 0] : List UInt8) ++ (four r0 ++ (four r1 ++ (four r2 ++ (four r3 ++ (four r4 ++ (four r5 ++ (four r6 ++ (four r7 ++ (two root ++ r))))))))))))) 13 4 = r0 := by
      have h := four_at (four pc ++ four st ++ four co ++ ([if ov then 1 else 0] : List UInt8)) (four r1 ++ (four r2 ++ (four r3 ++ (four r4 ++ (four r5 ++ (four r6 ++ (four r7 ++ (two root ++ r)))))))) r0 13 (hw _ (by simp)) (by simp [four_length])
      simpa [List.append_assoc] using h
    have n5 : numTo (four pc ++ (four st ++ (four co ++ (([if ov then 1 else 0] : List UInt8) ++ (four r0 ++ (four r1 ++ (four r2 ++ (four r3 ++ (four r4 ++ (four r5 ++ (four r6 ++ (four r7 ++ (two root ++ r))))))))))))) 17 4 = r1 := by
      have h := four_at (four pc ++ four st ++ four co ++ ([if ov then 1 else 0] : List UInt8) ++ four r0) (four r2 ++ (four r3 ++ (four r4 ++ (four r5 ++ (four r6 ++ (four r7 ++ (two root ++ r))))))) r1 17 (hw _ (by simp)) (by simp [four_length])
      simpa [List.append_assoc] using h
    have n6 : numTo (four pc ++ (four st ++ (four co ++ (([if ov then 1 else 0] : List UInt8) ++ (four r0 ++ (four r1 ++ (four r2 ++ (four r3 ++ (four r4 ++ (four r5 ++ (four r6 ++ (four r7 ++ (two root ++ r))))))))))))) 21 4 = r2 := by
      have h := four_at (four pc ++ four st ++ four co ++ ([if ov then 1 else 0] : List UInt8) ++ four r0 ++ four r1) (four r3 ++ (four r4 ++ (four r5 ++ (four r6 ++ (four r7 ++ (two root ++ r)))))) r2 21 (hw _ (by simp)) (by simp [four_length])
      simpa [List.append_assoc] using h
    have n7 : numTo (four pc ++ (four st ++ (four co ++ (([if ov then 1 else 0] : List UInt8) ++ (four r0 ++ (four r1 ++ (four r2 ++ (four r3 ++ (four r4 ++ (four r5 ++ (four r6 ++ (four r7 ++ (two root ++ r))))))))))))) 25 4 = r3 := by
      have h := four_at (four pc ++ four st ++ four co ++ ([if ov then 1 else 0] : List UInt8) ++ four r0 ++ four r1 ++ four r2) (four r4 ++ (four r5 ++ (four r6 ++ (four r7 ++ (two root ++ r))))) r3 25 (hw _ (by simp)) (by simp [four_length])
      simpa [List.append_assoc] using h
    have n8 : numTo (four pc ++ (four st ++ (four co ++ (([if ov then 1 else 0] : List UInt8) ++ (four r0 ++ (four r1 ++ (four r2 ++ (four r3 ++ (four r4 ++ (four r5 ++ (four r6 ++ (four r7 ++ (two root ++ r))))))))))))) 29 4 = r4 := by
      have h := four_at (four pc ++ four st ++ four co ++ ([if ov then 1 else 0] : List UInt8) ++ four r0 ++ four r1 ++ four r2 ++ four r3) (four r5 ++ (four r6 ++ (four r7 ++ (two root ++ r)))) r4 29 (hw _ (by simp)) (by simp [four_length])
      simpa [List.append_assoc] using h
    have n9 : numTo (four pc ++ (four st ++ (four co ++ (([if ov then 1 else 0] : List UInt8) ++ (four r0 ++ (four r1 ++ (four r2 ++ (four r3 ++ (four r4 ++ (four r5 ++ (four r6 ++ (four r7 ++ (two root ++ r))))))))))))) 33 4 = r5 := by
      have h := four_at (four pc ++ four st ++ four co ++ ([if ov then 1 else 0] : List UInt8) ++ four r0 ++ four r1 ++ four r2 ++ four r3 ++ four r4) (four r6 ++ (four r7 ++ (two root ++ r))) r5 33 (hw _ (by simp)) (by simp [four_length])
      simpa [List.append_assoc] using h
    have n10 : numTo (four pc ++ (four st ++ (four co ++ (([if ov then 1 else 0] : List UInt8) ++ (four r0 ++ (four r1 ++ (four r2 ++ (four r3 ++ (four r4 ++ (four r5 ++ (four r6 ++ (four r7 ++ (two root ++ r))))))))))))) 37 4 = r6 := by
      have h := four_at (four pc ++ four st ++ four co ++ ([if ov then 1 else 0] : List UInt8) ++ four r0 ++ four r1 ++ four r2 ++ four r3 ++ four r4 ++ four r5) (four r7 ++ (two root ++ r)) r6 37 (hw _ (by simp)) (by simp [four_length])
      simpa [List.append_assoc] using h
    have n11 : numTo (four pc ++ (four st ++ (four co ++ (([if ov then 1 else 0] : List UInt8) ++ (four r0 ++ (four r1 ++ (four r2 ++ (four r3 ++ (four r4 ++ (four r5 ++ (four r6 ++ (four r7 ++ (two root ++ r))))))))))))) 41 4 = r7 := by
      have h := four_at (four pc ++ four st ++ four co ++ ([if ov then 1 else 0] : List UInt8) ++ four r0 ++ four r1 ++ four r2 ++ four r3 ++ four r4 ++ four r5 ++ four r6) (two root ++ r) r7 41 (hw _ (by simp)) (by simp [four_length])
      simpa [List.append_assoc] using h
    have nr : numTo (four pc ++ (four st ++ (four co ++ (([if ov then 1 else 0] : List UInt8) ++ (four r0 ++ (four r1 ++ (four r2 ++ (four r3 ++ (four r4 ++ (four r5 ++ (four r6 ++ (four r7 ++ (two root ++ r))))))))))))) 45 2 = root := by
      have h := two_at (four pc ++ four st ++ four co ++ ([if ov then 1 else 0] : List UInt8) ++ four r0 ++ four r1 ++ four r2 ++ four r3 ++ four r4 ++ four r5 ++ four r6 ++ four r7) r root 45 hr (by simp [four_length])
      simpa [List.append_assoc] using h
    have nb : (four pc ++ (four st ++ (four co ++ (([if ov then 1 else 0] : List UInt8) ++ (four r0 ++ (four r1 ++ (four r2 ++ (four r3 ++ (four r4 ++ (four r5 ++ (four r6 ++ (four r7 ++ (two root ++ r))))))))))))).getD 12 0 = if ov then 1 else 0 := by
      have hl : (four pc ++ four st ++ four co).length = 12 := by simp [four_length]
      have h : ((four pc ++ four st ++ four co) ++ (([if ov then 1 else 0] : List UInt8) ++ (four r0 ++ (four r1 ++ (four r2 ++ (four r3 ++ (four r4 ++ (four r5 ++ (four r6 ++ (four r7 ++ (two root ++ r))))))))))).getD 12 0 = if ov then 1 else 0 := by
        rw [List.getD_eq_getElem?_getD, List.getElem?_append_right (by omega), hl]; rfl
      simpa [List.append_assoc] using h
    generalize (four pc ++ (four st ++ (four co ++ (([if ov then 1 else 0] : List UInt8) ++ (four r0 ++ (four r1 ++ (four r2 ++ (four r3 ++ (four r4 ++ (four r5 ++ (four r6 ++ (four r7 ++ (two root ++ r))))))))))))) = W at *
    refine ⟨?_, nr, ?_⟩
    · unfold unlab
      rw [n0, n1, n2, nb]
      have hreg : (List.range 8).map (unreg W) = [r0, r1, r2, r3, r4, r5, r6, r7] := by
        show [numTo W 13 4, numTo W 17 4, numTo W 21 4, numTo W 25 4, numTo W 29 4, numTo W 33 4, numTo W 37 4, numTo W 41 4] = _
        rw [n4, n5, n6, n7, n8, n9, n10, n11]
      rw [hreg]
      cases ov <;> rfl
    · rw [nb]; cases ov <;> decide
/-- A machine's own witness of a step that is no error is believed, and tells the stamp behind the step. -/
theorem own_believed (m : Mach) (hok : m.Ok) (h0 : m.step.2 = 0) : checked (stamp m.s (root m.cells)) (label m.s (root m.cells) ++ shown m) = (stamp m.step.1.s (root m.step.1.cells), 0) := by
  have hb := root_bd m.cells
  obtain ⟨e1, e2, e3⟩ := unlab_label m.s (root m.cells) (shown m) hok.s (by omega)
  have hlen : (label m.s (root m.cells)).length = 47 := label_length _ _ hok.s.len
  have hdrop : (label m.s (root m.cells) ++ shown m).drop 47 = shown m := by
    have := List.drop_left (l₁ := label m.s (root m.cells)) (l₂ := shown m)
    rwa [hlen] at this
  obtain ⟨x, h1, h2⟩ := coreStep_record m []
  have hsh : shown m = x := by unfold shown; rw [h1]; rfl
  obtain ⟨T', h3⟩ := h2 (by omega) hok [] []
  rw [List.append_nil] at h3
  unfold checked heard
  rw [if_pos ⟨by rw [List.length_append, hlen]; omega, e3, by rw [e1, e2]; rfl⟩, e1, e2, hdrop, hsh, h3]
  simp [toldBy, h0]
end Dp
end Go.Proofs.YtdipojfngdceoabGreatDoor

/- Two witnesses of one stamp: they tell the same, or two texts with one sum stand where they first part. No program is named here. -/
namespace Go.Proofs.YtdipojfngdceoabGreatDoor
open Go.RowKit

namespace Dp
/-- Where two lists of texts first part they have one sum. -/
def Clash (X Y : List (List UInt8)) : Prop := ∃ n, ∃ h1 : n < X.length, ∃ h2 : n < Y.length, X.take n = Y.take n ∧ X[n] ≠ Y[n] ∧ sum X[n] = sum Y[n]
theorem Clash.append {X Y : List (List UInt8)} (h : Clash X Y) (A B : List (List UInt8)) : Clash (X ++ A) (Y ++ B) := by
  obtain ⟨n, h1, h2, h3, h4, h5⟩ := h
  refine ⟨n, by rw [List.length_append]; omega, by rw [List.length_append]; omega, ?_, ?_, ?_⟩
  · rw [List.take_append_of_le_length (by omega), List.take_append_of_le_length (by omega)]; exact h3
  · rw [List.getElem_append_left h1, List.getElem_append_left h2]; exact h4
  · rw [List.getElem_append_left h1, List.getElem_append_left h2]; exact h5
theorem Clash.behind {X Y : List (List UInt8)} (h : Clash X Y) (T : List (List UInt8)) : Clash (T ++ X) (T ++ Y) := by
  obtain ⟨n, h1, h2, h3, h4, h5⟩ := h
  have e1 : (T ++ X)[T.length + n]'(by rw [List.length_append]; omega) = X[n] := by rw [List.getElem_append_right (by omega)]; simp
  have e2 : (T ++ Y)[T.length + n]'(by rw [List.length_append]; omega) = Y[n] := by rw [List.getElem_append_right (by omega)]; simp
  refine ⟨T.length + n, by rw [List.length_append]; omega, by rw [List.length_append]; omega, ?_, ?_, ?_⟩
  · rw [List.take_length_add_append, List.take_length_add_append, h3]
  · rw [e1, e2]; exact h4
  · rw [e1, e2]; exact h5
theorem Clash.one {a b : List UInt8} (h : a ≠ b) (hs : sum a = sum b) : Clash [a] [b] := ⟨0, by simp, by simp, rfl, h, hs⟩

theorem two_inj {x y : Int} (hx : 0 ≤ x ∧ x < 65536) (hy : 0 ≤ y ∧ y < 65536) (h : two x = two y) : x = y := by
  rw [← numTo_two_back x hx [], ← numTo_two_back y hy [], h]
theorem four_inj {x y : Int} (hx : isWord x) (hy : isWord y) (h : four x = four y) : x = y := by
  rw [← numTo_four_back x hx [], ← numTo_four_back y hy [], h]
theorem halves_inj {a b c d : Int} (h : halvesText a b = halvesText c d) : two a = two c ∧ two b = two d := by
  unfold halvesText at h
  simp only [List.cons.injEq, true_and] at h
  exact List.append_inj h rfl
theorem sum_two {l : List UInt8} : 0 ≤ sum l ∧ sum l < 65536 := by have := sum_bd l; omega
theorem others_getD (l : List UInt8) (k : Nat) (h : k < 8) : (others l 8).getD k 0 = numTo l (4 + 2 * k) 2 := by
  unfold others
  rw [List.getD_eq_getElem?_getD, List.getElem?_map, List.getElem?_range h]; rfl
theorem others_two (l : List UInt8) (k : Nat) : 0 ≤ (others l 8).getD k 0 ∧ (others l 8).getD k 0 < 65536 := getD_word (others_bd l 8) k
/-- Two texts of one layer: with them the sums one layer down, and the digest beside, are the same. -/
theorem ptext_down {w1 w2 : Int} {l1 l2 : List UInt8} {n k : Nat} (hk : k < 8) (h : ptext w1 (others l1 8) n (k + 1) = ptext w2 (others l2 8) n (k + 1)) :
    sum (ptext w1 (others l1 8) n k) = sum (ptext w2 (others l2 8) n k) ∧ numTo l1 (4 + 2 * k) 2 = numTo l2 (4 + 2 * k) 2 := by
  have o1 := others_two l1 k
  have o2 := others_two l2 k
  unfold ptext at h
  by_cases he : n / 2 ^ k % 2 = 0
  · rw [if_pos he, if_pos he] at h
    obtain ⟨a, b⟩ := halves_inj h
    refine ⟨two_inj sum_two sum_two a, ?_⟩
    rw [← others_getD l1 k hk, ← others_getD l2 k hk]
    exact two_inj o1 o2 b
  · rw [if_neg he, if_neg he] at h
    obtain ⟨a, b⟩ := halves_inj h
    refine ⟨two_inj sum_two sum_two b, ?_⟩
    rw [← others_getD l1 k hk, ← others_getD l2 k hk]
    exact two_inj o1 o2 a
theorem pfTexts_get (l : List UInt8) (n j : Nat) (h : j < (pfTexts l n).length) : (pfTexts l n)[j] = ptext (numTo l 0 4) (others l 8) n (8 - j) := by
  simp [pfTexts]
theorem pf_clash (l1 l2 : List UInt8) (n : Nat) (hs : sum (ptext (numTo l1 0 4) (others l1 8) n 8) = sum (ptext (numTo l2 0 4) (others l2 8) n 8)) :
    Clash (pfTexts l1 n) (pfTexts l2 n) ∨ ∀ k, k ≤ 8 → ptext (numTo l1 0 4) (others l1 8) n k = ptext (numTo l2 0 4) (others l2 8) n k := by
  have key : ∀ j, j ≤ 9 → Clash (pfTexts l1 n) (pfTexts l2 n) ∨ ((∀ i, i < j → ptext (numTo l1 0 4) (others l1 8) n (8 - i) = ptext (numTo l2 0 4) (others l2 8) n (8 - i)) ∧ (j ≤ 8 → sum (ptext (numTo l1 0 4) (others l1 8) n (8 - j)) = sum (ptext (numTo l2 0 4) (others l2 8) n (8 - j)))) := by
    intro j
    induction j with
    | zero => intro _; exact .inr ⟨fun i hi => by omega, fun _ => hs⟩
    | succ j ih =>
      intro hj
      rcases ih (by omega) with h | ⟨h1, h2⟩
      · exact .inl h
      · by_cases he : ptext (numTo l1 0 4) (others l1 8) n (8 - j) = ptext (numTo l2 0 4) (others l2 8) n (8 - j)
        · refine .inr ⟨fun i hi => ?_, fun h8 => ?_⟩
          · by_cases e : i = j
            · subst e; exact he
            · exact h1 i (by omega)
          · have e : 8 - j = (8 - (j + 1)) + 1 := by omega
            rw [e] at he
            exact (ptext_down (by omega) he).1
        · refine .inl ⟨j, by rw [pfTexts_length]; omega, by rw [pfTexts_length]; omega, ?_, ?_, ?_⟩
          · apply List.ext_getElem
            · simp [pfTexts_length]
            · intro i a1 a2
              rw [List.getElem_take, List.getElem_take, pfTexts_get, pfTexts_get]
              exact h1 i (by rw [List.length_take] at a1; omega)
          · rw [pfTexts_get, pfTexts_get]; exact he
          · rw [pfTexts_get, pfTexts_get]; exact h2 (by omega)
  rcases key 9 (Nat.le_refl _) with h | ⟨h1, _⟩
  · exact .inl h
  · refine .inr fun k hk => ?_
    have := h1 (8 - k) (by omega)
    rwa [show 8 - (8 - k) = k by omega] at this
theorem pf_same {l1 l2 : List UInt8} {n : Nat} (h : ∀ k, k ≤ 8 → ptext (numTo l1 0 4) (others l1 8) n k = ptext (numTo l2 0 4) (others l2 8) n k) :
    numTo l1 0 4 = numTo l2 0 4 ∧ (∀ v k, k ≤ 8 → rooted l1 v n k = rooted l2 v n k) ∧ pfTexts l1 n = pfTexts l2 n := by
  have hw : numTo l1 0 4 = numTo l2 0 4 := by
    have h0 := h 0 (by omega)
    have e : cellText (numTo l1 0 4) = cellText (numTo l2 0 4) := h0
    unfold cellText at e
    simp only [List.cons.injEq, true_and] at e
    exact four_inj (numTo_bd l1 0 4 (Nat.le_refl _)) (numTo_bd l2 0 4 (Nat.le_refl _)) e
  refine ⟨hw, ?_, ?_⟩
  · intro v k
    induction k with
    | zero => intro _; rfl
    | succ k ih =>
      intro hk
      unfold rooted
      rw [ih (by omega), (ptext_down (by omega) (h (k + 1) hk)).2]
  · apply List.ext_getElem
    · simp [pfTexts_length]
    · intro i a1 a2
      rw [pfTexts_get, pfTexts_get]
      exact h (8 - i) (by omega)

/-- Two memories of proofs that have told the same till now. -/
structure Like (a b : Pm) : Prop where
  root : a.root = b.root
  texts : a.texts = b.texts

theorem fits_sum {m : Pm} {n : Nat} (h : fitsNow m n = true) : sum (ptext (numTo m.rest 0 4) (others m.rest 8) n 8) = m.root := by
  unfold fitsNow at h
  simp only [Bool.and_eq_true, beq_iff_eq] at h
  rw [ptext_rooted _ _ _ 8 (Nat.le_refl _)]
  exact h.2
theorem load_agree {a b : Pm} (hl : Like a b) {n : Int} {ra rb : Pm × Int × Int} (ha : proofsMemo.load a n = some ra) (hb : proofsMemo.load b n = some rb) :
    Clash ra.1.texts rb.1.texts ∨ (Like ra.1 rb.1 ∧ ra.2 = rb.2) := by
  simp only [proofsMemo] at ha hb
  by_cases hn : n ≥ 256
  · rw [if_pos hn] at ha hb
    simp only [Option.some.injEq] at ha hb
    subst ha hb
    exact .inr ⟨hl, rfl⟩
  · rw [if_neg hn] at ha hb
    cases fa : fitsNow a n.toNat with
    | false => rw [fa] at ha; simp at ha
    | true =>
      cases fb : fitsNow b n.toNat with
      | false => rw [fb] at hb; simp at hb
      | true =>
        rw [fa] at ha
        rw [fb] at hb
        simp only [if_true, Option.some.injEq] at ha hb
        subst ha hb
        have hs : sum (ptext (numTo a.rest 0 4) (others a.rest 8) n.toNat 8) = sum (ptext (numTo b.rest 0 4) (others b.rest 8) n.toNat 8) := by rw [fits_sum fa, fits_sum fb, hl.root]
        rcases pf_clash _ _ _ hs with h | h
        · left
          show Clash (a.texts ++ _) (b.texts ++ _)
          rw [hl.texts]
          exact h.behind _
        · obtain ⟨h1, h2, h3⟩ := pf_same h
          right
          exact ⟨⟨hl.root, by show a.texts ++ _ = b.texts ++ _; rw [hl.texts, h3]⟩, by rw [h1]⟩
theorem store_agree {a b : Pm} (hl : Like a b) {n v : Int} {ra rb : Pm × Int} (ha : proofsMemo.store a n v = some ra) (hb : proofsMemo.store b n v = some rb) :
    Clash ra.1.texts rb.1.texts ∨ (Like ra.1 rb.1 ∧ ra.2 = rb.2) := by
  simp only [proofsMemo] at ha hb
  by_cases hn : n ≥ 256
  · rw [if_pos hn] at ha hb
    simp only [Option.some.injEq] at ha hb
    subst ha hb
    exact .inr ⟨hl, rfl⟩
  · rw [if_neg hn] at ha hb
    cases fa : fitsNow a n.toNat with
    | false => rw [fa] at ha; simp at ha
    | true =>
      cases fb : fitsNow b n.toNat with
      | false => rw [fb] at hb; simp at hb
      | true =>
        rw [fa] at ha
        rw [fb] at hb
        simp only [if_true, Option.some.injEq] at ha hb
        subst ha hb
        have hs : sum (ptext (numTo a.rest 0 4) (others a.rest 8) n.toNat 8) = sum (ptext (numTo b.rest 0 4) (others b.rest 8) n.toNat 8) := by rw [fits_sum fa, fits_sum fb, hl.root]
        rcases pf_clash _ _ _ hs with h | h
        · left
          show Clash (a.texts ++ _) (b.texts ++ _)
          rw [hl.texts]
          exact h.behind _
        · obtain ⟨h1, h2, h3⟩ := pf_same h
          right
          exact ⟨⟨h2 v 8 (Nat.le_refl _), by show a.texts ++ _ = b.texts ++ _; rw [hl.texts, h3]⟩, rfl⟩
theorem source_agree {a b : Pm} (hl : Like a b) {n : Int} {ra rb : Pm × List UInt8 × Int} (ha : proofsMemo.source a n = some ra) (hb : proofsMemo.source b n = some rb) :
    Clash ra.1.texts rb.1.texts ∨ (Like ra.1 rb.1 ∧ ra.2 = rb.2) := by
  simp only [proofsMemo] at ha hb
  cases fa : srcThere a.rest n with
  | false => rw [fa] at ha; simp at ha
  | true =>
    cases fb : srcThere b.rest n with
    | false => rw [fb] at hb; simp at hb
    | true =>
      rw [fa] at ha
      rw [fb] at hb
      simp only [if_true, Option.some.injEq] at ha hb
      subst ha hb
      unfold srcThere at fa fb
      simp only [Bool.and_eq_true, beq_iff_eq] at fa fb
      by_cases he : srcNext a.rest = srcNext b.rest
      · right
        exact ⟨⟨hl.root, by show a.texts ++ _ = b.texts ++ _; rw [hl.texts, he]⟩, by rw [he]⟩
      · left
        show Clash (a.texts ++ _) (b.texts ++ _)
        rw [hl.texts]
        exact (Clash.one he (fa.2.trans fb.2.symm)).behind _
theorem perform_agree {a b : Pm} (hl : Like a b) (s : Cs) (i : Ins) {ra rb : Cs × Pm × Int} (ha : perform proofsMemo s a i = some ra) (hb : perform proofsMemo s b i = some rb) :
    Clash ra.2.1.texts rb.2.1.texts ∨ (ra.1 = rb.1 ∧ Like ra.2.1 rb.2.1 ∧ ra.2.2 = rb.2.2) := by
  unfold perform at ha hb
  by_cases h13 : i.op = 13
  · rw [if_pos h13] at ha hb
    cases la : proofsMemo.load a (wrap (s.reg i.b + i.n)) with
    | none => rw [la] at ha; simp at ha
    | some qa =>
      cases lb : proofsMemo.load b (wrap (s.reg i.b + i.n)) with
      | none => rw [lb] at hb; simp at hb
      | some qb =>
        rw [la] at ha
        rw [lb] at hb
        simp only at ha hb
        rcases load_agree hl la lb with h | ⟨h1, h2⟩
        · left
          split at ha <;> split at hb <;> (simp only [Option.some.injEq] at ha hb; subst ha hb; exact h)
        · right
          rw [h2] at ha
          split at ha
          · rename_i hz
            rw [if_pos hz] at hb
            simp only [Option.some.injEq] at ha hb
            subst ha hb
            exact ⟨rfl, h1, rfl⟩
          · rename_i hz
            rw [if_neg hz] at hb
            simp only [Option.some.injEq] at ha hb
            subst ha hb
            exact ⟨rfl, h1, rfl⟩
  rw [if_neg h13] at ha hb
  by_cases h14 : i.op = 14
  · rw [if_pos h14] at ha hb
    cases la : proofsMemo.store a (wrap (s.reg i.b + i.n)) (s.reg i.a) with
    | none => rw [la] at ha; simp at ha
    | some qa =>
      cases lb : proofsMemo.store b (wrap (s.reg i.b + i.n)) (s.reg i.a) with
      | none => rw [lb] at hb; simp at hb
      | some qb =>
        rw [la] at ha
        rw [lb] at hb
        simp only at ha hb
        rcases store_agree hl la lb with h | ⟨h1, h2⟩
        · left
          split at ha <;> split at hb <;> (simp only [Option.some.injEq] at ha hb; subst ha hb; exact h)
        · right
          rw [h2] at ha
          split at ha
          · rename_i hz
            rw [if_pos hz] at hb
            simp only [Option.some.injEq] at ha hb
            subst ha hb
            exact ⟨rfl, h1, rfl⟩
          · rename_i hz
            rw [if_neg hz] at hb
            simp only [Option.some.injEq] at ha hb
            subst ha hb
            exact ⟨rfl, h1, rfl⟩
  rw [if_neg h14] at ha hb
  by_cases h19 : i.op = 19
  · rw [if_pos h19] at ha hb
    cases la : proofsMemo.source a (s.reg i.b) with
    | none => rw [la] at ha; simp at ha
    | some qa =>
      cases lb : proofsMemo.source b (s.reg i.b) with
      | none => rw [lb] at hb; simp at hb
      | some qb =>
        rw [la] at ha
        rw [lb] at hb
        simp only at ha hb
        rcases source_agree hl la lb with h | ⟨h1, h2⟩
        · left
          split at ha <;> split at hb <;> (simp only [Option.some.injEq] at ha hb; subst ha hb; exact h)
        · right
          rw [h2] at ha
          split at ha
          · rename_i hz
            rw [if_pos hz] at hb
            simp only [Option.some.injEq] at ha hb
            subst ha hb
            exact ⟨rfl, h1, rfl⟩
          · rename_i hz
            rw [if_neg hz] at hb
            simp only [Option.some.injEq] at ha hb
            subst ha hb
            exact ⟨rfl, h1, rfl⟩
  rw [if_neg h19] at ha hb
  simp only [Option.some.injEq] at ha hb
  subst ha hb
  exact .inr ⟨rfl, hl, rfl⟩
theorem perform_more (s : Cs) (a : Pm) (i : Ins) {ra : Cs × Pm × Int} (ha : perform proofsMemo s a i = some ra) : ∃ X, ra.2.1.texts = a.texts ++ X := by
  unfold perform at ha
  by_cases h13 : i.op = 13
  · rw [if_pos h13] at ha
    cases la : proofsMemo.load a (wrap (s.reg i.b + i.n)) with
    | none => rw [la] at ha; simp at ha
    | some qa =>
      rw [la] at ha
      simp only at ha
      have : ∃ X, qa.1.texts = a.texts ++ X := by
        simp only [proofsMemo] at la
        split at la
        · simp only [Option.some.injEq] at la; subst la; exact ⟨[], by simp⟩
        · split at la
          · simp only [Option.some.injEq] at la; subst la; exact ⟨_, rfl⟩
          · simp at la
      split at ha <;> (simp only [Option.some.injEq] at ha; subst ha; exact this)
  rw [if_neg h13] at ha
  by_cases h14 : i.op = 14
  · rw [if_pos h14] at ha
    cases la : proofsMemo.store a (wrap (s.reg i.b + i.n)) (s.reg i.a) with
    | none => rw [la] at ha; simp at ha
    | some qa =>
      rw [la] at ha
      simp only at ha
      have : ∃ X, qa.1.texts = a.texts ++ X := by
        simp only [proofsMemo] at la
        split at la
        · simp only [Option.some.injEq] at la; subst la; exact ⟨[], by simp⟩
        · split at la
          · simp only [Option.some.injEq] at la; subst la; exact ⟨_, rfl⟩
          · simp at la
      split at ha <;> (simp only [Option.some.injEq] at ha; subst ha; exact this)
  rw [if_neg h14] at ha
  by_cases h19 : i.op = 19
  · rw [if_pos h19] at ha
    cases la : proofsMemo.source a (s.reg i.b) with
    | none => rw [la] at ha; simp at ha
    | some qa =>
      rw [la] at ha
      simp only at ha
      have : ∃ X, qa.1.texts = a.texts ++ X := by
        simp only [proofsMemo] at la
        split at la
        · simp only [Option.some.injEq] at la; subst la; exact ⟨_, rfl⟩
        · simp at la
      split at ha <;> (simp only [Option.some.injEq] at ha; subst ha; exact this)
  rw [if_neg h19] at ha
  simp only [Option.some.injEq] at ha
  subst ha
  exact ⟨[], by simp⟩
theorem step_agree {a b : Pm} (hl : Like a b) (s : Cs) {ra rb : Cs × Pm × Int} (ha : coreStep proofsMemo s a = some ra) (hb : coreStep proofsMemo s b = some rb) :
    Clash ra.2.1.texts rb.2.1.texts ∨ (ra.1 = rb.1 ∧ ra.2.1.root = rb.2.1.root ∧ ra.2.2 = rb.2.2) := by
  unfold coreStep at ha hb
  by_cases hov : s.over = true
  · rw [if_pos hov] at ha hb
    simp only [Option.some.injEq] at ha hb
    subst ha hb
    exact .inr ⟨rfl, hl.root, rfl⟩
  rw [if_neg hov] at ha hb
  cases la : proofsMemo.load a s.pc with
  | none => rw [la] at ha; simp at ha
  | some qa =>
    cases lb : proofsMemo.load b s.pc with
    | none => rw [lb] at hb; simp at hb
    | some qb =>
      rw [la] at ha
      rw [lb] at hb
      simp only at ha hb
      have stA : ∃ X, ra.2.1.texts = qa.1.texts ++ X := by
        have h := ha
        split at h
        · simp only [Option.some.injEq] at h; subst h; exact ⟨[], by simp⟩
        · cases hp : perform proofsMemo s qa.1 (decode qa.2.1) with
          | none => rw [hp] at h; simp at h
          | some p =>
            rw [hp] at h
            simp only at h
            obtain ⟨X, hX⟩ := perform_more s qa.1 _ hp
            split at h <;> (simp only [Option.some.injEq] at h; subst h; exact ⟨X, hX⟩)
      have stB : ∃ X, rb.2.1.texts = qb.1.texts ++ X := by
        have h := hb
        split at h
        · simp only [Option.some.injEq] at h; subst h; exact ⟨[], by simp⟩
        · cases hp : perform proofsMemo s qb.1 (decode qb.2.1) with
          | none => rw [hp] at h; simp at h
          | some p =>
            rw [hp] at h
            simp only at h
            obtain ⟨X, hX⟩ := perform_more s qb.1 _ hp
            split at h <;> (simp only [Option.some.injEq] at h; subst h; exact ⟨X, hX⟩)
      rcases load_agree hl la lb with h | ⟨h1, h2⟩
      · left
        obtain ⟨X, hX⟩ := stA
        obtain ⟨Y, hY⟩ := stB
        rw [hX, hY]
        exact h.append X Y
      · rw [h2] at ha
        split at ha
        · rename_i hz
          rw [if_pos hz] at hb
          simp only [Option.some.injEq] at ha hb
          subst ha hb
          exact .inr ⟨rfl, h1.root, rfl⟩
        · rename_i hz
          rw [if_neg hz] at hb
          cases pa : perform proofsMemo s qa.1 (decode qb.2.1) with
          | none => rw [pa] at ha; simp at ha
          | some p =>
            cases pb : perform proofsMemo s qb.1 (decode qb.2.1) with
            | none => rw [pb] at hb; simp at hb
            | some q =>
              rw [pa] at ha
              rw [pb] at hb
              simp only at ha hb
              rcases perform_agree h1 s _ pa pb with h | ⟨e1, e2, e3⟩
              · left
                split at ha <;> split at hb <;> (simp only [Option.some.injEq] at ha hb; subst ha hb; exact h)
              · right
                rw [e3] at ha
                split at ha
                · rename_i hz2
                  rw [if_pos hz2] at hb
                  simp only [Option.some.injEq] at ha hb
                  subst ha hb
                  exact ⟨e1, e2.root, e3⟩
                · rename_i hz2
                  rw [if_neg hz2] at hb
                  simp only [Option.some.injEq] at ha hb
                  subst ha hb
                  exact ⟨by simp only [e1], e2.root, rfl⟩
/-- All texts that were believed, the label's first. -/
def believed (l : List UInt8) (r : Cs × Pm × Int) : List (List UInt8) := label (unlab l) (unroot l) :: r.2.1.texts
theorem heard_agree (S : Int) (l1 l2 : List UInt8) {r1 r2 : Cs × Pm × Int} (h1 : heard S l1 = some r1) (h2 : heard S l2 = some r2) :
    Clash (believed l1 r1) (believed l2 r2) ∨ (r1.1 = r2.1 ∧ r1.2.1.root = r2.2.1.root ∧ r1.2.2 = r2.2.2) := by
  have open_ : ∀ (l : List UInt8) (r : Cs × Pm × Int), heard S l = some r → 47 ≤ l.length ∧ (l.getD 12 0).toNat ≤ 1 ∧ sum (label (unlab l) (unroot l)) = S ∧ coreStep proofsMemo (unlab l) ⟨l.drop 47, unroot l, []⟩ = some r := by
    intro l r h
    unfold heard at h
    split at h
    · rename_i hc
      cases hs : coreStep proofsMemo (unlab l) ⟨l.drop 47, unroot l, []⟩ with
      | none => rw [hs] at h; simp at h
      | some q =>
        rw [hs] at h
        simp only at h
        split at h
        · simp only [Option.some.injEq] at h
          subst h
          exact ⟨hc.1, hc.2.1, hc.2.2, rfl⟩
        · simp at h
    · simp at h
  obtain ⟨a1, a2, a3, a4⟩ := open_ l1 r1 h1
  obtain ⟨b1, b2, b3, b4⟩ := open_ l2 r2 h2
  unfold believed
  by_cases he : label (unlab l1) (unroot l1) = label (unlab l2) (unroot l2)
  · have ht : l1.take 47 = l2.take 47 := by rw [← label_unlab l1 a1 a2, ← label_unlab l2 b1 b2]; exact he
    have hu : unlab l1 = unlab l2 := by rw [← unlab_take l1, ← unlab_take l2, ht]
    have hr : unroot l1 = unroot l2 := by rw [← unroot_take l1, ← unroot_take l2, ht]
    rw [hu] at a4
    rcases step_agree (a := ⟨l1.drop 47, unroot l1, []⟩) (b := ⟨l2.drop 47, unroot l2, []⟩) ⟨hr, rfl⟩ _ a4 b4 with h | h
    · left
      rw [he]
      exact h.behind [label (unlab l2) (unroot l2)]
    · exact .inr h
  · left
    exact (Clash.one he (a3.trans b3.symm)).append _ _
end Dp
end Go.Proofs.YtdipojfngdceoabGreatDoor

/- A struct that is built of one part. -/
namespace Go.Proofs.YtdipojfngdceoabGreatDoor
open Go.RowKit

theorem zeroMach : (Tryz.prog.info? 86).map (fun i => i.zero) = some (some (.agg (Dp.stateCells Dp.zeroCs ++ Dp.memCells (.slice none 0 0) (List.replicate 256 0)).toArray)) := by kernel_rfl
theorem zeroMem : (Tryz.prog.info? 84).map (fun i => i.zero) = some (some (.agg (Dp.memCells (.slice none 0 0) (List.replicate 256 0)).toArray)) := by kernel_rfl
theorem sizeMem : (Tryz.prog.info? 84).map (·.size) = some 257 := by kernel_rfl
theorem buildMach (parts : Array (Nat × Value)) (w : World) (cs : Array Value) (h : Instr.fill ((#[(0, 12), (12, 257)] : Array (Nat × Nat))[·]?) (Dp.stateCells Dp.zeroCs ++ Dp.memCells (.slice none 0 0) (List.replicate 256 0)).toArray parts.toList = some cs) : (Instr.build 86 parts).run Tryz.prog w = .ok (.agg cs) w := by
  have e : (Instr.build 86 parts).run Tryz.prog w = (match Instr.fill ((#[(0, 12), (12, 257)] : Array (Nat × Nat))[·]?) (Dp.stateCells Dp.zeroCs ++ Dp.memCells (.slice none 0 0) (List.replicate 256 0)).toArray parts.toList with
    | some cells => (pure (.agg cells) : Sem Value)
    | _ => stuck "build: no such field, or a part of the wrong size").run Tryz.prog w := by kernel_rfl
  rw [e, h]
  rfl
theorem buildMem (w : World) : (Instr.build 84 #[]).run Tryz.prog w = .ok (.agg (Dp.memCells (.slice none 0 0) (List.replicate 256 0)).toArray) w := by kernel_rfl

end Go.Proofs.YtdipojfngdceoabGreatDoor
