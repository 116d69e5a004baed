/- Steps on the way: OwnRow, RegionLast, RegionLate, RegionLate2, RegionPair, Shapes, Dig, Lent. -/
import Derived.Test.YtdipojfngdceoaaDoorPack36
import Derived.WalkKit
import Derived.WalkSpells
import Derived.StillTail
import Derived.OrdersHeld
import Derived.Test.YtdipojfngdceoaaDoorProg
import Derived.WalkLawsBesides
import Derived.Test.YtdipojfngdceoaaDoorRows
/- A slice of elements of one cell each that the call has made for itself, and append onto it: what it holds, where it lies, what has turned. It holds of every program. -/
namespace Go.Proofs.YtdipojfngdceoaaDoor
namespace Dp
open Go.RowKit

/-- The slice value v is nil and holds nothing, or lies at the head of a row of its own whose first cells are xs. -/
def Own (w : World) (e : TypeId) (v : Value) (xs : List Value) : Prop :=
  (v = .slice none 0 0 ∧ xs = []) ∨
  ∃ g tail, v = .slice (some ⟨g, 0, none⟩) xs.length (xs.length + tail.length) ∧ Row w g e (xs ++ tail) ∧ xs.length + tail.length ≤ maxLen

theorem Own.nil (w : World) (e : TypeId) : Own w e (.slice none 0 0) [] := .inl ⟨rfl, rfl⟩
theorem Own.lt {w : World} {e : TypeId} {v : Value} {xs : List Value} (h : Own w e v xs) : ∀ g, v.ownBlock = some g → g < w.heap.size := by
  rintro g hg
  rcases h with ⟨rfl, _⟩ | ⟨g', tail, rfl, hr, _⟩
  · simp [Value.ownBlock] at hg
  · simp [Value.ownBlock] at hg; subst hg; exact hr.lt
theorem Own.keep {S : Nat → Prop} {w w' : World} {e : TypeId} {v : Value} {xs : List Value} (h : Own w e v xs) (k : Keeps S w w') (hs : ∀ g, v.ownBlock = some g → ¬ S g) : Own w' e v xs := by
  rcases h with h | ⟨g, tail, rfl, hr, hm⟩
  · exact .inl h
  · exact .inr ⟨g, tail, rfl, hr.keep k (hs g rfl), hm⟩
theorem Own.ne {w : World} {e f : TypeId} {v : Value} {xs cs : List Value} {b : Nat} (h : Own w e v xs) (hb : Row w b f cs) (hef : f ≠ e) : ∀ g, v.ownBlock = some g → g ≠ b := by
  rintro g hg rfl
  rcases h with ⟨rfl, _⟩ | ⟨g', tail, rfl, hr, _⟩
  · simp [Value.ownBlock] at hg
  · simp [Value.ownBlock] at hg; subst hg; exact hb.ne hr hef rfl
theorem Own.alloc {w : World} {e : TypeId} {v : Value} {xs : List Value} (h : Own w e v xs) (o : Obj) : Own (w.alloc o) e v xs := by
  rcases h with h | ⟨g, tail, rfl, hr, hm⟩
  · exact .inl h
  · exact .inr ⟨g, tail, rfl, hr.allocOld o, hm⟩
theorem Own.drew {w : World} {e : TypeId} {v : Value} {xs : List Value} (h : Own w e v xs) : Own w.drew e v xs := h
theorem Own.isSlice {w : World} {e : TypeId} {v : Value} {xs : List Value} (h : Own w e v xs) : ∃ ad cap, v = .slice ad xs.length cap := by
  rcases h with ⟨rfl, rfl⟩ | ⟨g, tail, rfl, _, _⟩
  · exact ⟨none, 0, rfl⟩
  · exact ⟨_, _, rfl⟩

theorem zeroCells_length (z : Value) (hz : z.cells.size = 1) (n : Nat) : (Builtin.zeroCells z.cells n).toList.length = n := by simp [size_zeroCells, hz]

/-- append onto a slice of the call's own. -/
theorem run_append_Own {P : Program} (w : World) (t ty e : TypeId) (z : Value) (bytes : Nat) (ht : P.underlying t = some (.slice e)) (hinfo : (P.info? e).map (fun i => (i.zero, i.size, i.bytes)) = some (some z, 1, bytes)) (hz1 : z.cells.size = 1)
    (v : Value) (xs : List Value) (hown : Own w e v xs) (a : Addr) (c : Nat) (news : List Value) (hnews : ∀ j u, news[j]? = some u → w.cell? (a.add j) = some u) (h1 : ∀ u ∈ news, u.oneCell' = true) (hpos : 0 < news.length)
    (h63 : xs.length + news.length ≤ maxLen) (hbytes : (xs.length + news.length) * bytes ≤ 140737488355328) :
    ∃ v' w', (Builtin.append_ #[t, t] ty #[v, .slice (some a) news.length c]).run P w = .ok v' w' ∧ Own w' e v' (xs ++ news) ∧ Keeps (fun k => v.ownBlock = some k) w w' ∧
      (v'.ownBlock = v.ownBlock ∧ w'.heap.size = w.heap.size ∨ v'.ownBlock = some w.heap.size ∧ w'.heap.size = w.heap.size + 1) := by
  obtain ⟨i, hi, hz, hsize, hby⟩ := info_parts hinfo
  subst hby
  have hsmall : xs.length + news.length ≤ 9223372036854775807 := by simp only [maxLen] at h63; omega
  have hl : news.length = news.length * i.size := by rw [hsize, Nat.mul_one]
  have grown : ∀ old : Nat, Own (w.drew.alloc (.cells (xs.toArray ++ news.toArray ++ Builtin.zeroCells z.cells (grownCap w (xs.length + news.length) old e - (xs.length + news.length))) e)) e
        (.slice (some ⟨w.heap.size, 0, none⟩) (xs.length + news.length) (grownCap w (xs.length + news.length) old e)) (xs ++ news) := by
    intro old
    have hge := grownCap_ge w (xs.length + news.length) old e
    have hcm : grownCap w (xs.length + news.length) old e ≤ maxLen := grownCap_le_maxLen w _ old e h63
    refine .inr ⟨w.heap.size, (Builtin.zeroCells z.cells (grownCap w (xs.length + news.length) old e - (xs.length + news.length))).toList, ?_, ?_, ?_⟩
    · rw [zeroCells_length z hz1, List.length_append]; congr 1; omega
    · have := heap_alloc_new w.drew (.cells (xs.toArray ++ news.toArray ++ Builtin.zeroCells z.cells (grownCap w (xs.length + news.length) old e - (xs.length + news.length))) e)
      unfold Row; rw [show w.heap.size = w.drew.heap.size from rfl, this]; simp
    · rw [zeroCells_length z hz1, List.length_append]; omega
  rcases hown with ⟨rfl, rfl⟩ | ⟨g, tail, rfl, hr, hm⟩
  · have hrun := run_append_nil (P := P) w t ty e i z ht hi hz a news.length c news hl hnews hpos (by simp only [List.length_nil, Nat.zero_add] at hsmall; omega) (by simp only [List.length_nil, Nat.zero_add] at hbytes; omega)
    have hgr := grown 0
    simp only [List.length_nil, Nat.zero_add, List.nil_append, Array.empty_append] at hgr ⊢
    exact ⟨_, _, hrun, hgr, (Keeps.refl _ _).drew.alloc _, .inr ⟨rfl, by simp⟩⟩
  · by_cases hroom : xs.length + news.length ≤ xs.length + tail.length
    · have hrun := run_append_room (P := P) w t ty e i ht hi g xs.length (xs.length + tail.length) (xs ++ tail).toArray hr a news.length c news hl hnews h1 hroom (by rw [hsize]; simp; omega)
      refine ⟨_, _, hrun, .inr ⟨g, tail.drop news.length, ?_, ?_, ?_⟩, (Keeps.refl (fun k => Value.ownBlock (.slice (some ⟨g, 0, none⟩) xs.length (xs.length + tail.length)) = some k) w).setRow (.inr rfl) _, .inl ⟨rfl, by simp⟩⟩
      · rw [List.length_append, List.length_drop]; congr 1; omega
      · have h := Row.setRow hr (List.take (xs.length * i.size) (xs ++ tail).toArray.toList ++ news ++ List.drop (xs.length * i.size + news.length) (xs ++ tail).toArray.toList)
        have e1 : List.take (xs.length * i.size) (xs ++ tail).toArray.toList ++ news ++ List.drop (xs.length * i.size + news.length) (xs ++ tail).toArray.toList = xs ++ news ++ tail.drop news.length := by
          rw [hsize, Nat.mul_one]; simp
        rw [e1] at h ⊢; exact h
      · rw [List.length_append, List.length_drop]; omega
    · have hrun := run_append_grow (P := P) w t ty e i z ht hi hz ⟨g, 0, none⟩ xs.length (xs.length + tail.length) xs (by rw [hsize, Nat.mul_one]) (by
          intro j u hj
          have e1 := add_zero_off g j
          have hlt : j < xs.length := (List.getElem?_eq_some_iff.1 hj).1
          rw [e1, hr.cell, List.getElem?_append_left hlt]; exact hj) a news.length c news hl hnews (by omega) (by omega) (growslice_fits (by omega) hbytes)
      exact ⟨_, _, hrun, grown _, (Keeps.refl _ _).drew.alloc _, .inr ⟨rfl, by simp⟩⟩

theorem wpList_append_Own {P : Program} {w : World} {ops : Array Oper} {rest : List Oper} {o : Oper} {a : Act} {Q : Exit → Act → World → Prop} (hgd : o.guard = none) (s x : Operand) (t : TypeId)
    (ho : o.op = .call { callee := .builtin .append, args := #[s, x], argTypes := #[t, t] }) (e : TypeId) (z : Value) (bytes : Nat) (ht : P.underlying t = some (.slice e)) (hinfo : (P.info? e).map (fun i => (i.zero, i.size, i.bytes)) = some (some z, 1, bytes)) (hz1 : z.cells.size = 1)
    (v : Value) (xs : List Value) (hs : a.eval s = v) (hown : Own w e v xs) (ad : Addr) (m c : Nat) (news : List Value) (hx : a.eval x = .slice (some ad) m c) (hl : news.length = m) (hnews : ∀ j u, news[j]? = some u → w.cell? (ad.add j) = some u) (h1 : ∀ u ∈ news, u.oneCell' = true) (hpos : 0 < m)
    (h63 : xs.length + m ≤ maxLen) (hbytes : (xs.length + m) * bytes ≤ 140737488355328)
    (h : ∀ v' w', Own w' e v' (xs ++ news) → Keeps (fun k => v.ownBlock = some k) w w' → Hid (v'.ownBlock = v.ownBlock ∧ w'.heap.size = w.heap.size ∨ v'.ownBlock = some w.heap.size ∧ w'.heap.size = w.heap.size + 1) → wpList P ops Q rest (a.put o.dst v') w') :
    wpList P ops Q (o :: rest) a w := by
  refine wpList_plain hgd fun K hK => ?_
  subst hl
  obtain ⟨v', w', hr, h2, h3, h4⟩ := run_append_Own (P := P) w t o.type e z bytes ht hinfo hz1 v xs hown ad c news hnews h1 hpos h63 hbytes
  unfold Oper.wp execOp
  simp only [ho, resolve, invoke, builtin, Sem.run_bind, Sem.run_pure, Result.andThen_ok, List.map_toArray, List.map_cons, List.map_nil, hs, hx, hr]
  exact hK _ _ (h v' w' h2 h3 h4)

theorem wp_append_Own {P : Program} {w : World} {o : Oper} {a : Act} {K : Act → World → Prop} {Q : Exit → Act → World → Prop} (s x : Operand) (t : TypeId)
    (ho : o.op = .call { callee := .builtin .append, args := #[s, x], argTypes := #[t, t] }) (e : TypeId) (z : Value) (bytes : Nat) (ht : P.underlying t = some (.slice e)) (hinfo : (P.info? e).map (fun i => (i.zero, i.size, i.bytes)) = some (some z, 1, bytes)) (hz1 : z.cells.size = 1)
    (v : Value) (xs : List Value) (hs : a.eval s = v) (hown : Own w e v xs) (ad : Addr) (m c : Nat) (news : List Value) (hx : a.eval x = .slice (some ad) m c) (hl : news.length = m) (hnews : ∀ j u, news[j]? = some u → w.cell? (ad.add j) = some u) (h1 : ∀ u ∈ news, u.oneCell' = true) (hpos : 0 < m)
    (h63 : xs.length + m ≤ maxLen) (hbytes : (xs.length + m) * bytes ≤ 140737488355328)
    (h : ∀ v' w', Own w' e v' (xs ++ news) → Keeps (fun k => v.ownBlock = some k) w w' → Hid (v'.ownBlock = v.ownBlock ∧ w'.heap.size = w.heap.size ∨ v'.ownBlock = some w.heap.size ∧ w'.heap.size = w.heap.size + 1) → K (a.put o.dst v') w') :
    o.wp P a w K Q := by
  subst hl
  obtain ⟨v', w', hr, h2, h3, h4⟩ := run_append_Own (P := P) w t o.type e z bytes ht hinfo hz1 v xs hown ad c news hnews h1 hpos h63 hbytes
  unfold Oper.wp execOp
  simp only [ho, resolve, invoke, builtin, Sem.run_bind, Sem.run_pure, Result.andThen_ok, List.map_toArray, List.map_cons, List.map_nil, hs, hx, hr]
  exact h v' w' h2 h3 h4

end Dp
end Go.Proofs.YtdipojfngdceoaaDoor

/- A region that draws its order, reads memory and ends in one store that waits for all: the reads are taken first, and what they read need not stand behind that store. It holds of every program. -/
namespace Go.Proofs.YtdipojfngdceoaaDoor
namespace Dp
open Go

section
variable {P : Program} {md : Region.Mode} {ops : Array Oper} {Q : Exit → Act → World → Prop} {S : World → Prop} {n : Nat}

/-- Whatever order is picked from here on; S holds behind every operation but number n. -/
def wpAnyK (P : Program) (md : Region.Mode) (ops : Array Oper) (Q : Exit → Act → World → Prop) (S : World → Prop) (n : Nat) : Nat → Array Bool → Act → World → Prop
  | 0, listed, a, w => Region.ready md ops listed = [] ∧ Q .normal a w
  | fuel + 1, listed, a, w =>
    (Region.ready md ops listed = [] → Q .normal a w) ∧
    ∀ i ∈ Region.ready md ops listed, wpOp P ops Q i (fun a' w' => (i ≠ n → S w') ∧ wpAnyK P md ops Q S n fuel (listed.setIfInBounds i true) a' w') a w

theorem wpAny_of_K : ∀ (fuel : Nat) (listed : Array Bool) (a : Act) (w : World), wpAnyK P md ops Q S n fuel listed a w → wpAny P md ops Q fuel listed a w
  | 0, _, _, _, h => h
  | fuel + 1, _, _, _, h => ⟨h.1, fun i hi => wpOp_mono (fun a' w' h' => wpAny_of_K fuel _ a' w' h'.2) (h.2 i hi)⟩

theorem wpAnyK_first {i : Nat} {oi : Oper} {v : Value} (hi : ops[i]? = some oi) (hsel : ∀ (j : Nat) (o : Oper) cs b, ops[j]? = some o → o.op ≠ .select cs b) (hin : i ≠ n) (hwait : Region.waitsFor md ops n i = true)
    (hQ : ∀ c a w, Q (.panic c) (a.put oi.dst v) w → Q (.panic c) a w) :
    ∀ (fuel : Nat) (listed : Array Bool) (a : Act) (w : World),
      (∀ j oj, ops[j]? = some oj → j ≠ i → listed.getD j true = false → (∀ e ∈ oj.after, Region.binds md e = true → e.on ≠ i) → oi.apart ops oj = true) →
      i ∈ Region.ready md ops listed → YieldsIf P ops S oi v a → S w →
      wpAnyK P md ops Q S n fuel (listed.setIfInBounds i true) (a.put oi.dst v) w → wpAnyK P md ops Q S n (fuel + 1) listed a w := by
  intro fuel
  induction fuel with
  | zero =>
    intro listed a w _ hr hy hS H
    refine ⟨fun h => (by rw [h] at hr; cases hr), fun j hj => ?_⟩
    by_cases hji : j = i
    · subst hji; exact hy.wpOp hi hS ⟨fun _ => hS, H⟩
    · have := ready_mono hj hji
      rw [H.1] at this
      cases this
  | succ fuel ih =>
    intro listed a w hfree hr hy hS H
    refine ⟨fun h => (by rw [h] at hr; cases hr), fun j hj => ?_⟩
    by_cases hji : j = i
    · subst hji; exact hy.wpOp hi hS ⟨fun _ => hS, H⟩
    · have h1 := H.2 j (ready_mono hj hji)
      obtain ⟨hjun, oj, hoj, hall⟩ := mem_ready.1 hj
      have hnot : ∀ e ∈ oj.after, Region.binds md e = true → e.on ≠ i := fun e he hb heq => by
        have h1 := hall e he hb
        have h0 := (mem_ready.1 hr).1
        rw [heq] at h1
        rcases Nat.lt_or_ge i listed.size with h' | h'
        · simp [h'] at h0 h1; rw [h0] at h1; cases h1
        · simp [Array.getElem?_eq_none h'] at h1
      have hjn : j ≠ n := by
        rintro rfl
        obtain ⟨oj', hoj', e, he, hb, hone⟩ := Region.waitsFor_spec hwait
        have : oj' = oj := Option.some.inj (hoj'.symm.trans hoj)
        subst this
        exact hnot e he hb hone
      have h2 := wpOp_putIf hoj (hfree j oj hoj hji hjun hnot) (fun cs b => hsel i oi cs b hi) (fun cs b => hsel j oj cs b hoj) hQ hy h1
      have hfree' : ∀ k ok, ops[k]? = some ok → k ≠ i → (listed.setIfInBounds j true).getD k true = false →
          (∀ e ∈ ok.after, Region.binds md e = true → e.on ≠ i) → oi.apart ops ok = true := fun k ok hk hki hun hno => by
        refine hfree k ok hk hki ?_ hno
        by_cases hjk : j = k
        · subst hjk; exact hjun
        · rw [getD_set_ne true hjk] at hun; exact hun
      refine wpOp_mono (fun a' w' h3 => ⟨fun _ => h3.2.1 hjn, ih (listed.setIfInBounds j true) a' w' hfree' (ready_mono hr (Ne.symm hji)) h3.1 (h3.2.1 hjn) ?_⟩) h2
      rw [Array.setIfInBounds_comm _ _ hji]
      exact h3.2.2

/-- Take number i first: it yields v in every world that meets S. -/
theorem wpAnyK_take (i : Nat) {oi : Oper} {v : Value} {fuel : Nat} {listed : Array Bool} {a : Act} {w : World} (hi : ops[i]? = some oi)
    (hs : (Region.noSelect ops && Region.free md ops listed i && (Region.ready md ops listed).contains i && Region.waitsFor md ops n i && i != n) = true)
    (hQ : ∀ c a w, Q (.panic c) (a.put oi.dst v) w → Q (.panic c) a w) (hg : Region.wanted oi (yielded ops a.tmps) = true) (hy : ∀ wx, S wx → (execOp a.eval oi).run P wx = .ok (.value v) wx) (hS : S w)
    (h : wpAnyK P md ops Q S n fuel (listed.setIfInBounds i true) (a.put oi.dst v) w) : wpAnyK P md ops Q S n (fuel + 1) listed a w := by
  simp only [Bool.and_eq_true, bne_iff_ne] at hs
  exact wpAnyK_first hi (Region.noSelect_spec hs.1.1.1.1) hs.2 hs.1.2 hQ fuel listed a w (Region.free_spec hi hs.1.1.1.2) (by simpa using hs.1.1.2) (.inl ⟨hg, hy⟩) hS h

/-- Number i alone may come up. -/
theorem wpAnyK_one (i : Nat) {oi : Oper} {fuel : Nat} {listed : Array Bool} {a : Act} {w : World} (hi : ops[i]? = some oi) (hr : Region.ready md ops listed = [i]) (hg : Region.wanted oi (yielded ops a.tmps) = true)
    (h : ∀ K : Act → World → Prop, (∀ a' w', (i ≠ n → S w') ∧ wpAnyK P md ops Q S n fuel (listed.setIfInBounds i true) a' w' → K a' w') → oi.wp P a w K Q) : wpAnyK P md ops Q S n (fuel + 1) listed a w := by
  refine ⟨fun h0 => (by rw [hr] at h0; cases h0), fun j hj => ?_⟩
  rw [hr] at hj
  simp only [List.mem_singleton] at hj
  subst hj
  unfold wpOp
  simp only [hi, hg, if_true]
  exact .inl (h _ (fun _ _ h => h))

/-- Numbers i and j may come up, in either order. -/
theorem wpAnyK_two (i j : Nat) {oi oj : Oper} {fuel : Nat} {listed : Array Bool} {a : Act} {w : World} (hi : ops[i]? = some oi) (hj : ops[j]? = some oj) (hr : Region.ready md ops listed = [i, j]) (hgi : Region.wanted oi (yielded ops a.tmps) = true) (hgj : Region.wanted oj (yielded ops a.tmps) = true)
    (h1 : ∀ K : Act → World → Prop, (∀ a' w', (i ≠ n → S w') ∧ wpAnyK P md ops Q S n fuel (listed.setIfInBounds i true) a' w' → K a' w') → oi.wp P a w K Q)
    (h2 : ∀ K : Act → World → Prop, (∀ a' w', (j ≠ n → S w') ∧ wpAnyK P md ops Q S n fuel (listed.setIfInBounds j true) a' w' → K a' w') → oj.wp P a w K Q) : wpAnyK P md ops Q S n (fuel + 1) listed a w := by
  refine ⟨fun h0 => (by rw [hr] at h0; cases h0), fun k hk => ?_⟩
  rw [hr] at hk
  simp only [List.mem_cons, List.not_mem_nil, or_false] at hk
  rcases hk with rfl | rfl
  · unfold wpOp
    simp only [hi, hgi, if_true]
    exact .inl (h1 _ (fun _ _ h => h))
  · unfold wpOp
    simp only [hj, hgj, if_true]
    exact .inl (h2 _ (fun _ _ h => h))

theorem wpAnyK_done {listed : Array Bool} {a : Act} {w : World} (hr : Region.ready md ops listed = []) (h : Q .normal a w) : ∀ fuel, wpAnyK P md ops Q S n fuel listed a w
  | 0 => ⟨hr, h⟩
  | _ + 1 => ⟨fun _ => h, by rw [hr]; simp⟩

theorem wp_region_K {id : Nat} {a : Act} {w : World} (S : World → Prop) (n : Nat) (hm : P.follows .mixedOrders = true)
    (h : wpAnyK P .any ops Q S n ops.size (Array.replicate ops.size false) a w.drew) : (Code.region id ops true).wp P Q a w :=
  wp_region_any hm (wpAny_of_K _ _ _ _ h)

end
end Dp
end Go.Proofs.YtdipojfngdceoaaDoor

/- A region that draws its order, reads memory and ends in one operation that writes and waits for all others, be it through others: the reads are taken first. It holds of every program. -/
namespace Go.Proofs.YtdipojfngdceoaaDoor
namespace Dp
open Go

/-- The operations that wait for number i, be it through others. -/
def lateB (md : Region.Mode) (ops : Array Oper) (i : Nat) : List Nat :=
  (List.range ops.size).foldl (fun D k => match ops[k]? with
    | some ok => if ok.after.any fun e => Region.binds md e && (e.on == i || D.contains e.on) then k :: D else D
    | none => D) []
/-- They do, and none of them is listed yet; all from number n on are of them. -/
def lateOk (md : Region.Mode) (ops : Array Oper) (listed : Array Bool) (i n : Nat) (D : List Nat) : Bool :=
  ((List.range ops.size).all fun k => decide (k < n) || D.contains k) && D.all fun k => (match ops[k]? with
    | some ok => ok.after.any fun e => Region.binds md e && (e.on == i || D.contains e.on)
    | none => false) && !listed.getD k true

section
variable {P : Program} {md : Region.Mode} {ops : Array Oper} {Q : Exit → Act → World → Prop} {S : World → Prop} {n : Nat}

/-- Whatever order is picked from here on; S holds behind every operation whose number is below n. -/
def wpAnyL (P : Program) (md : Region.Mode) (ops : Array Oper) (Q : Exit → Act → World → Prop) (S : World → Prop) (n : Nat) : Nat → Array Bool → Act → World → Prop
  | 0, listed, a, w => Region.ready md ops listed = [] ∧ Q .normal a w
  | fuel + 1, listed, a, w =>
    (Region.ready md ops listed = [] → Q .normal a w) ∧
    ∀ i ∈ Region.ready md ops listed, wpOp P ops Q i (fun a' w' => (i < n → S w') ∧ wpAnyL P md ops Q S n fuel (listed.setIfInBounds i true) a' w') a w

theorem wpAny_of_L : ∀ (fuel : Nat) (listed : Array Bool) (a : Act) (w : World), wpAnyL P md ops Q S n fuel listed a w → wpAny P md ops Q fuel listed a w
  | 0, _, _, _, h => h
  | fuel + 1, _, _, _, h => ⟨h.1, fun i hi => wpOp_mono (fun a' w' h' => wpAny_of_L fuel _ a' w' h'.2) (h.2 i hi)⟩

theorem late_not {listed : Array Bool} {i j : Nat} {D : List Nat} (hi : listed.getD i true = false) (hD : ∀ k ∈ D, ∃ ok, ops[k]? = some ok ∧ ∃ e ∈ ok.after, Region.binds md e = true ∧ (e.on = i ∨ e.on ∈ D)) (hun : ∀ k ∈ D, listed.getD k true = false) (hj : j ∈ Region.ready md ops listed) : j ∉ D := by
  intro hjD
  obtain ⟨_, oj, hoj, hall⟩ := mem_ready.1 hj
  obtain ⟨ok, hok, e, he, hb, hon⟩ := hD j hjD
  have : ok = oj := Option.some.inj (hok.symm.trans hoj)
  subst this
  have h1 := hall e he hb
  have h0 : listed.getD e.on true = false := hon.elim (fun h => h ▸ hi) (fun h => hun _ h)
  have h2 := getD_both h0
  rcases Nat.lt_or_ge e.on listed.size with h' | h'
  · simp [h'] at h1 h2; rw [h2] at h1; cases h1
  · simp [Array.getElem?_eq_none h'] at h1

theorem wpAnyL_first {i : Nat} {oi : Oper} {v : Value} {D : List Nat} (hi : ops[i]? = some oi) (hsel : ∀ (j : Nat) (o : Oper) cs b, ops[j]? = some o → o.op ≠ .select cs b) (hnD : ∀ k, n ≤ k → k < ops.size → k ∈ D)
    (hD : ∀ k ∈ D, ∃ ok, ops[k]? = some ok ∧ ∃ e ∈ ok.after, Region.binds md e = true ∧ (e.on = i ∨ e.on ∈ D))
    (hQ : ∀ c a w, Q (.panic c) (a.put oi.dst v) w → Q (.panic c) a w) :
    ∀ (fuel : Nat) (listed : Array Bool) (a : Act) (w : World), (∀ k ∈ D, listed.getD k true = false) →
      (∀ j oj, ops[j]? = some oj → j ≠ i → listed.getD j true = false → (∀ e ∈ oj.after, Region.binds md e = true → e.on ≠ i) → oi.apart ops oj = true) →
      i ∈ Region.ready md ops listed → YieldsIf P ops S oi v a → S w →
      wpAnyL P md ops Q S n fuel (listed.setIfInBounds i true) (a.put oi.dst v) w → wpAnyL P md ops Q S n (fuel + 1) listed a w := by
  intro fuel
  induction fuel with
  | zero =>
    intro listed a w _ _ hr hy hS H
    refine ⟨fun h => (by rw [h] at hr; cases hr), fun j hj => ?_⟩
    by_cases hji : j = i
    · subst hji; exact hy.wpOp hi hS ⟨fun _ => hS, H⟩
    · have := ready_mono hj hji
      rw [H.1] at this
      cases this
  | succ fuel ih =>
    intro listed a w hun hfree hr hy hS H
    refine ⟨fun h => (by rw [h] at hr; cases hr), fun j hj => ?_⟩
    by_cases hji : j = i
    · subst hji; exact hy.wpOp hi hS ⟨fun _ => hS, H⟩
    · have h1 := H.2 j (ready_mono hj hji)
      obtain ⟨hjun, oj, hoj, hall⟩ := mem_ready.1 hj
      have hnot : ∀ e ∈ oj.after, Region.binds md e = true → e.on ≠ i := fun e he hb heq => by
        have h1 := hall e he hb
        have h0 := (mem_ready.1 hr).1
        rw [heq] at h1
        rcases Nat.lt_or_ge i listed.size with h' | h'
        · simp [h'] at h0 h1; rw [h0] at h1; cases h1
        · simp [Array.getElem?_eq_none h'] at h1
      have hjD : j ∉ D := late_not (mem_ready.1 hr).1 hD hun hj
      have hjs : j < ops.size := (Array.getElem?_eq_some_iff.1 hoj).1
      have hjn : j < n := by
        rcases Nat.lt_or_ge j n with h | h
        · exact h
        · exact absurd (hnD j h hjs) hjD
      have h2 := wpOp_putIf hoj (hfree j oj hoj hji hjun hnot) (fun cs b => hsel i oi cs b hi) (fun cs b => hsel j oj cs b hoj) hQ hy h1
      have hset : ∀ k, k ≠ j → listed.getD k true = false → (listed.setIfInBounds j true).getD k true = false := fun k hk h => by rw [getD_set_ne true (Ne.symm hk)]; exact h
      have hfree' : ∀ k ok, ops[k]? = some ok → k ≠ i → (listed.setIfInBounds j true).getD k true = false →
          (∀ e ∈ ok.after, Region.binds md e = true → e.on ≠ i) → oi.apart ops ok = true := fun k ok hk hki hun' hno => by
        refine hfree k ok hk hki ?_ hno
        by_cases hjk : j = k
        · subst hjk; exact hjun
        · rw [getD_set_ne true hjk] at hun'; exact hun'
      refine wpOp_mono (fun a' w' h3 => ⟨fun _ => h3.2.1 hjn, ih (listed.setIfInBounds j true) a' w' (fun k hk => hset k (fun e => hjD (e ▸ hk)) (hun k hk)) hfree' (ready_mono hr (Ne.symm hji)) h3.1 (h3.2.1 hjn) ?_⟩) h2
      rw [Array.setIfInBounds_comm _ _ hji]
      exact h3.2.2

/-- Take number i first: it yields v in every world that meets S; number n, behind which S need not hold, waits for it, be it through others. -/
theorem wpAnyL_take (i : Nat) {oi : Oper} {v : Value} {fuel : Nat} {listed : Array Bool} {a : Act} {w : World} (hi : ops[i]? = some oi)
    (hs : (Region.noSelect ops && Region.free md ops listed i && (Region.ready md ops listed).contains i && lateOk md ops listed i n (lateB md ops i)) = true)
    (hQ : ∀ c a w, Q (.panic c) (a.put oi.dst v) w → Q (.panic c) a w) (hg : Region.wanted oi (yielded ops a.tmps) = true) (hy : ∀ wx, S wx → (execOp a.eval oi).run P wx = .ok (.value v) wx) (hS : S w)
    (h : wpAnyL P md ops Q S n fuel (listed.setIfInBounds i true) (a.put oi.dst v) w) : wpAnyL P md ops Q S n (fuel + 1) listed a w := by
  simp only [Bool.and_eq_true] at hs
  obtain ⟨⟨⟨hsel, hfr⟩, hrd⟩, hlate⟩ := hs
  unfold lateOk at hlate
  simp only [Bool.and_eq_true, List.all_eq_true] at hlate
  refine wpAnyL_first (D := lateB md ops i) hi (Region.noSelect_spec hsel) (fun k h1 h2 => ?_) (fun k hk => ?_) hQ fuel listed a w (fun k hk => ?_) (Region.free_spec hi hfr) (by simpa using hrd) (.inl ⟨hg, hy⟩) hS h
  · have := hlate.1 k (by simpa using h2)
    simp only [Bool.or_eq_true, decide_eq_true_eq, List.contains_iff_mem] at this
    exact this.elim (fun h => absurd h (by omega)) id
  · have := (hlate.2 k hk).1
    split at this
    · rename_i ok hok
      obtain ⟨e, he, hb⟩ := Array.any_eq_true'.1 this
      simp only [Bool.and_eq_true, Bool.or_eq_true, beq_iff_eq] at hb
      exact ⟨ok, hok, e, he, hb.1, hb.2.imp id (fun h => by simpa using h)⟩
    · cases this
  · have := (hlate.2 k hk).2
    simpa using this

/-- Number i alone may come up. -/
theorem wpAnyL_one (i : Nat) {oi : Oper} {fuel : Nat} {listed : Array Bool} {a : Act} {w : World} (hi : ops[i]? = some oi) (hr : Region.ready md ops listed = [i]) (hg : Region.wanted oi (yielded ops a.tmps) = true)
    (h : ∀ K : Act → World → Prop, (∀ a' w', (i < n → S w') ∧ wpAnyL P md ops Q S n fuel (listed.setIfInBounds i true) a' w' → K a' w') → oi.wp P a w K Q) : wpAnyL P md ops Q S n (fuel + 1) listed a w := by
  refine ⟨fun h0 => (by rw [hr] at h0; cases h0), fun j hj => ?_⟩
  rw [hr] at hj
  simp only [List.mem_singleton] at hj
  subst hj
  unfold wpOp
  simp only [hi, hg, if_true]
  exact .inl (h _ (fun _ _ h => h))

theorem wpAnyL_done {listed : Array Bool} {a : Act} {w : World} (hr : Region.ready md ops listed = []) (h : Q .normal a w) : ∀ fuel, wpAnyL P md ops Q S n fuel listed a w
  | 0 => ⟨hr, h⟩
  | _ + 1 => ⟨fun _ => h, by rw [hr]; simp⟩

theorem wp_region_L {id : Nat} {a : Act} {w : World} (S : World → Prop) (n : Nat) (hm : P.follows .mixedOrders = true)
    (h : wpAnyL P .any ops Q S n ops.size (Array.replicate ops.size false) a w.drew) : (Code.region id ops true).wp P Q a w :=
  wp_region_any hm (wpAny_of_L _ _ _ _ h)

end
end Dp
end Go.Proofs.YtdipojfngdceoaaDoor

/- More on regions that draw their order: behind the one operation that writes. It holds of every program. -/
namespace Go.Proofs.YtdipojfngdceoaaDoor
namespace Dp
open Go

section
variable {P : Program} {md : Region.Mode} {ops : Array Oper} {Q : Exit → Act → World → Prop} {S : World → Prop} {n : Nat}

/-- Once all numbers below n are listed, any order will do. -/
theorem wpAnyL_late (fuel : Nat) : ∀ (listed : Array Bool) (a : Act) (w : World), (∀ k, k < n → listed.getD k true = true) → wpAny P md ops Q fuel listed a w → wpAnyL P md ops Q S n fuel listed a w := by
  induction fuel with
  | zero => exact fun _ _ _ _ h => h
  | succ fuel ih =>
    intro listed a w hl h
    refine ⟨h.1, fun i hi => wpOp_mono (fun a' w' h' => ⟨fun hlt => ?_, ih _ a' w' (fun k hk => ?_) h'⟩) (h.2 i hi)⟩
    · have h0 := (mem_ready.1 hi).1
      rw [hl i hlt] at h0
      exact absurd h0 (by decide)
    · by_cases e : i = k
      · subst e
        have h0 := (mem_ready.1 hi).1
        rw [hl i hk] at h0
        exact absurd h0 (by decide)
      · rw [getD_set_ne true e]; exact hl k hk
theorem wpAnyL_rest {fuel : Nat} {listed : Array Bool} {a : Act} {w : World} (hl : ((List.range n).all fun k => listed.getD k true) = true) (h : wpAny P md ops Q fuel listed a w) : wpAnyL P md ops Q S n fuel listed a w :=
  wpAnyL_late fuel listed a w (fun k hk => by simpa using List.all_eq_true.1 hl k (by simpa using hk)) h
/-- A pure number is taken first. -/
theorem wpAny_pure (i : Nat) {oi : Oper} {v : Value} {fuel : Nat} {listed : Array Bool} {a : Act} {w : World} (hi : ops[i]? = some oi)
    (hs : (Region.noSelect ops && Region.free md ops listed i && (Region.ready md ops listed).contains i) = true)
    (hQ : ∀ c a w, Q (.panic c) (a.put oi.dst v) w → Q (.panic c) a w) (hy : Yields P ops oi v a)
    (h : wpAny P md ops Q fuel (listed.setIfInBounds i true) (a.put oi.dst v) w) : wpAny P md ops Q (fuel + 1) listed a w := by
  simp only [Bool.and_eq_true] at hs
  exact wpAny_take hi hs.1.1 hs.1.2 hs.2 hQ hy h

/-- What is left comes one by one. -/
theorem wpAny_tail (k : Nat) {fuel : Nat} {listed : Array Bool} {a : Act} {w : World} (hf : fuel = ops.size - k) (hB : Region.seqB md ops (ops.size - k) k listed = true) (h : wpList P ops Q (ops.toList.drop k) a w) : wpAny P md ops Q fuel listed a w := by
  have hl : (ops.toList.drop k).length = ops.size - k := by simp
  rw [hf, ← hl]
  rw [← hl] at hB
  exact wpAny_of_seq _ k listed a w (fun j => by simp) hB h

end
end Dp
end Go.Proofs.YtdipojfngdceoaaDoor

/- In a region that draws its order: two operations may come up. It holds of every program. -/
namespace Go.Proofs.YtdipojfngdceoaaDoor
namespace Dp
open Go

section
variable {P : Program} {md : Region.Mode} {ops : Array Oper} {Q : Exit → Act → World → Prop} {S : World → Prop} {n : Nat}
theorem wpAnyL_both (i j : Nat) {oi oj : Oper} {fuel : Nat} {listed : Array Bool} {a : Act} {w : World} (hi : ops[i]? = some oi) (hj : ops[j]? = some oj) (hr : Region.ready md ops listed = [i, j]) (hgi : Region.wanted oi (yielded ops a.tmps) = true) (hgj : Region.wanted oj (yielded ops a.tmps) = true)
    (h1 : ∀ K : Act → World → Prop, (∀ a' w', (i < n → S w') ∧ wpAnyL P md ops Q S n fuel (listed.setIfInBounds i true) a' w' → K a' w') → oi.wp P a w K Q)
    (h2 : ∀ K : Act → World → Prop, (∀ a' w', (j < n → S w') ∧ wpAnyL P md ops Q S n fuel (listed.setIfInBounds j true) a' w' → K a' w') → oj.wp P a w K Q) : wpAnyL P md ops Q S n (fuel + 1) listed a w := by
  refine ⟨fun h0 => (by rw [hr] at h0; cases h0), fun k hk => ?_⟩
  rw [hr] at hk
  simp only [List.mem_cons, List.not_mem_nil, or_false] at hk
  rcases hk with rfl | rfl
  · unfold wpOp
    simp only [hi, hgi, if_true]
    exact .inl (h1 _ (fun _ _ h => h))
  · unfold wpOp
    simp only [hj, hgj, if_true]
    exact .inl (h2 _ (fun _ _ h => h))
end
end Dp
end Go.Proofs.YtdipojfngdceoaaDoor

/- What a slice of bytes, and a slice of such slices, hold: the shapes that our contracts speak of; no program is named here. -/
namespace Go.Proofs.YtdipojfngdceoaaDoor
namespace Dp

/-- The cell that holds a byte. -/
def byteVal (b : UInt8) : Value := .int .u8 (b.toNat : Int)

/-- The slice value v holds just these bytes. -/
def Bytes (w : World) (v : Value) (l : List UInt8) : Prop :=
  ∃ b o ad cap, v = .slice ad l.length cap ∧ l.length ≤ maxLen ∧ (l ≠ [] → ad = some ⟨b, o, none⟩) ∧ ∀ j (h : j < l.length), w.cell? ⟨b, o + j, none⟩ = some (.int .u8 (l[j].toNat : Int))

/-- The slice value v holds slices that hold just these lists of bytes. -/
def Parts (w : World) (v : Value) (ls : List (List UInt8)) : Prop :=
  ∃ b o ad cap, v = .slice ad ls.length cap ∧ ls.length ≤ maxLen ∧ (ls ≠ [] → ad = some ⟨b, o, none⟩) ∧ ∀ i (h : i < ls.length), ∃ vi, w.cell? ⟨b, o + i, none⟩ = some vi ∧ Bytes w vi ls[i]

end Dp
end Go.Proofs.YtdipojfngdceoaaDoor

/- The program's digest answers the plain sum of all parts' bytes, one behind the other, for every list of parts, and leaves memory as it was. -/
namespace Go.Proofs.YtdipojfngdceoaaDoor
open Go.RowKit

set_option maxHeartbeats 400000 in
theorem digSum (v : Value) (ls : List (List UInt8)) (w : World) (hv : Dp.Parts w v ls) :
    Calls Tryd.prog 40 #[v] w fun e w' => e = .returned (.int .i64 (Dp.sum ls.flatten)) ∧ w' = w := by
  obtain ⟨b, o, ad, cap, rfl, hlen, hne, hcells⟩ := hv
  unfold maxLen at hlen
  go_enter Tryd.func40, Tryd.ntmps40
  go_wp2
  go_loop [3, 10] (fun n i => ∃ k : Nat, k ≤ ls.length ∧ i = .int .i64 k ∧ n = .int .i64 (Dp.sum (ls.take k).flatten)) (fun _ i => ls.length - (intOf i).toNat)
  case atStart => exact ⟨0, Nat.zero_le _, rfl, rfl⟩
  case round =>
    obtain ⟨k, hk, rfl, rfl⟩ := hrel
    by_cases hlt : k < ls.length
    · have HA : ad = some ⟨b, o, none⟩ := hne (by intro e; simp [e] at hlt)
      subst HA
      obtain ⟨vi, hc, b2, o2, ad2, cap2, rfl, hlen2, hne2, hcells2⟩ := hcells k hlt
      unfold maxLen at hlen2
      have HS : Hid ((ls.take (k + 1)).flatten = (ls.take k).flatten ++ ls[k]) := by unfold Hid; rw [List.take_succ_eq_append_getElem hlt, List.flatten_append, List.flatten_singleton]
      clear hne
      go_wp2
      go_loop [3, 16] (fun n i => ∃ j : Nat, j ≤ ls[k].length ∧ i = .int .i64 j ∧ n = .int .i64 (Dp.sumFrom (Dp.sum (ls.take k).flatten) (ls[k].take j))) (fun _ i => ls[k].length - (intOf i).toNat)
      case atStart => exact ⟨0, Nat.zero_le _, rfl, rfl⟩
      case round =>
        obtain ⟨j, hj, rfl, rfl⟩ := hrel
        by_cases hlt2 : j < ls[k].length
        · have HA : ad2 = some ⟨b2, o2, none⟩ := hne2 (by intro e; simp [e] at hlt2)
          subst HA
          have hc2 := hcells2 j hlt2
          have hd := Dp.sumFrom_bd (ls[k].take j) (Dp.sum (ls.take k).flatten) (Dp.sum_bd _)
          have hsn := Dp.sumFrom_snoc (Dp.sum (ls.take k).flatten) (ls[k].take j) ls[k][j]
          rw [← List.take_succ_eq_append_getElem hlt2] at hsn
          have HT : Hid (Dp.sumFrom (Dp.sum (ls.take k).flatten) (ls[k].take (j + 1)) = (Dp.sumFrom (Dp.sum (ls.take k).flatten) (ls[k].take j) * 257 + (ls[k][j].toNat : Int) + 1) % 65521) := hsn
          clear hsn hne2
          have hb : ls[k][j].toNat < 256 := ls[k][j].toNat_lt
          go_wp2
          go_round
          case rel => exact ⟨j + 1, by omega, by go_num, by rw [HT.out]⟩
          case measure => simp [intOf]; omega
        · go_wp2
          go_round
          case rel => exact ⟨k + 1, by omega, by go_num, by rw [HS.out, List.take_of_length_le (show ls[k].length ≤ j by omega)]; unfold Dp.sum; rw [Dp.sumFrom_append]⟩
          case measure => simp [intOf]; omega
    · go_wp2
      go_ret
      exact ⟨Dp.ret_int (by rw [List.take_of_length_le (by omega)]), rfl⟩

end Go.Proofs.YtdipojfngdceoaaDoor

/- What 'lent' hands back: a new row of the text's bytes and the two marks behind them, and nothing old has turned. -/
namespace Go.Proofs.YtdipojfngdceoaaDoor
open Go.RowKit Dp

namespace Dp
/-- The cells of a text's bytes. -/
def vals (l : List UInt8) : List Value := l.map fun b => Value.int .u8 (b.toNat : Int)
theorem length_vals (l : List UInt8) : (vals l).length = l.length := by simp [vals]
end Dp

theorem infoU8 : (Tryd.prog.info? 5).map (fun i => (i.zero, i.size, i.bytes)) = some (some (.int .u8 0), 1, 1) := by kernel_rfl
theorem sizeU8 : (Tryd.prog.info? 5).map (·.size) = some 1 := by kernel_rfl

set_option maxHeartbeats 400000 in
theorem lent_any (s : ByteArray) (w : World) (hs : s.size ≤ 16777216) :
    Calls Tryd.prog 24 #[.string s] w fun e w' => e = .returned (.slice (some ⟨w.heap.size, 0, none⟩) (s.size + 2) (s.size + 2)) ∧ Row w' w.heap.size 5 (vals (s.data.toList ++ [252, 253])) ∧ w'.heap.size = w.heap.size + 1 ∧ Keeps (fun _ => False) w w' := by
  go_enter Tryd.func24, Tryd.ntmps24
  go_wp2_with (at_make; refine wpList_make_row _ rfl _ _ 44 rfl 5 (.int .u8 0) 1 Tryd.underlying44 infoU8 rfl _ _ _ _ (s.size + 2) rfl rfl (by omega) (by omega) (by omega) (by unfold maxLen; omega) ?_)
  intro w1 r1 z1 k1
  go_wp2_with (refine wpList_copy_str rfl _ _ 44 9 rfl 5 Tryd.underlying44 sizeU8 w.heap.size (s.size + 2) (s.size + 2) s rfl rfl (by omega) _ 5 r1 (by rw [List.length_replicate]; omega) ?_)
  intro w2 r2 z2 k2
  have hl : (s.data.toList.map fun b => Value.int .u8 (b.toNat : Int)).length = s.size := by simp
  have c0 : w2.cell? ⟨w.heap.size, s.size, none⟩ = some (.int .u8 0) := by rw [r2.cell, List.getElem?_append_right (by omega), hl, Nat.sub_self]; rfl
  have c1 : w2.cell? ⟨w.heap.size, s.size + 1, none⟩ = some (.int .u8 0) := by rw [r2.cell, List.getElem?_append_right (by omega), hl, show s.size + 1 - s.size = 1 by omega]; rfl
  have f0 := r2.frozen s.size
  have f1 := r2.frozen (s.size + 1)
  clear hl
  go_wp2
  go_ret
  refine ⟨rfl, ?_, by simp [z2], ((k1.next k2 (fun i hi e => by omega)).setCell (.inl (Nat.le_refl _)) _).setCell (.inl (Nat.le_refl _)) _⟩
  have r3 := (r2.set s.size (.int .u8 252)).set (s.size + 1) (.int .u8 253)
  have hl : (s.data.toList.map fun b => Value.int .u8 (b.toNat : Int)).length = s.size := by simp
  rw [List.set_append_right _ _ (by omega), List.set_append_right _ _ (by omega), hl, Nat.sub_self, show s.size + 1 - s.size = 1 by omega] at r3
  simpa [vals] using r3

end Go.Proofs.YtdipojfngdceoaaDoor
