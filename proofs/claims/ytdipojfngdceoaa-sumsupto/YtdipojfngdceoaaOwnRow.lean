/- A slice of elements of one cell each that the call has made for itself, and append onto it: what it holds, where it lies, what has turned. It holds of every program. -/
import Derived.WalkKit
import Derived.WalkSpells
import Derived.Test.YtdipojfngdceoaaHeap
namespace Go.Proofs.Ytdipojfngdceoaa
namespace Dp
open Go.RowKit

/-- The slice value v is nil and holds nothing, or lies at the head of a row of its own whose first cells are xs. -/
def Own (w : World) (e : TypeId) (v : Value) (xs : List Value) : Prop :=
  (v = .slice none 0 0 ∧ xs = []) ∨
  ∃ g tail, v = .slice (some ⟨g, 0, none⟩) xs.length (xs.length + tail.length) ∧ Row w g e (xs ++ tail) ∧ xs.length + tail.length ≤ maxLen

theorem Own.nil (w : World) (e : TypeId) : Own w e (.slice none 0 0) [] := .inl ⟨rfl, rfl⟩
theorem Own.lt {w : World} {e : TypeId} {v : Value} {xs : List Value} (h : Own w e v xs) : ∀ g, v.ownBlock = some g → g < w.heap.size := by
  rintro g hg
  rcases h with ⟨rfl, _⟩ | ⟨g', tail, rfl, hr, _⟩
  · simp [Value.ownBlock] at hg
  · simp [Value.ownBlock] at hg; subst hg; exact hr.lt
theorem Own.keep {S : Nat → Prop} {w w' : World} {e : TypeId} {v : Value} {xs : List Value} (h : Own w e v xs) (k : Keeps S w w') (hs : ∀ g, v.ownBlock = some g → ¬ S g) : Own w' e v xs := by
  rcases h with h | ⟨g, tail, rfl, hr, hm⟩
  · exact .inl h
  · exact .inr ⟨g, tail, rfl, hr.keep k (hs g rfl), hm⟩
theorem Own.ne {w : World} {e f : TypeId} {v : Value} {xs cs : List Value} {b : Nat} (h : Own w e v xs) (hb : Row w b f cs) (hef : f ≠ e) : ∀ g, v.ownBlock = some g → g ≠ b := by
  rintro g hg rfl
  rcases h with ⟨rfl, _⟩ | ⟨g', tail, rfl, hr, _⟩
  · simp [Value.ownBlock] at hg
  · simp [Value.ownBlock] at hg; subst hg; exact hb.ne hr hef rfl
theorem Own.alloc {w : World} {e : TypeId} {v : Value} {xs : List Value} (h : Own w e v xs) (o : Obj) : Own (w.alloc o) e v xs := by
  rcases h with h | ⟨g, tail, rfl, hr, hm⟩
  · exact .inl h
  · exact .inr ⟨g, tail, rfl, hr.allocOld o, hm⟩
theorem Own.drew {w : World} {e : TypeId} {v : Value} {xs : List Value} (h : Own w e v xs) : Own w.drew e v xs := h
theorem Own.isSlice {w : World} {e : TypeId} {v : Value} {xs : List Value} (h : Own w e v xs) : ∃ ad cap, v = .slice ad xs.length cap := by
  rcases h with ⟨rfl, rfl⟩ | ⟨g, tail, rfl, _, _⟩
  · exact ⟨none, 0, rfl⟩
  · exact ⟨_, _, rfl⟩

theorem zeroCells_length (z : Value) (hz : z.cells.size = 1) (n : Nat) : (Builtin.zeroCells z.cells n).toList.length = n := by simp [size_zeroCells, hz]

/-- append onto a slice of the call's own. -/
theorem run_append_Own {P : Program} (w : World) (t ty e : TypeId) (z : Value) (bytes : Nat) (ht : P.underlying t = some (.slice e)) (hinfo : (P.info? e).map (fun i => (i.zero, i.size, i.bytes)) = some (some z, 1, bytes)) (hz1 : z.cells.size = 1)
    (v : Value) (xs : List Value) (hown : Own w e v xs) (a : Addr) (c : Nat) (news : List Value) (hnews : ∀ j u, news[j]? = some u → w.cell? (a.add j) = some u) (h1 : ∀ u ∈ news, u.oneCell' = true) (hpos : 0 < news.length)
    (h63 : xs.length + news.length ≤ maxLen) (hbytes : (xs.length + news.length) * bytes ≤ 140737488355328) :
    ∃ v' w', (Builtin.append_ #[t, t] ty #[v, .slice (some a) news.length c]).run P w = .ok v' w' ∧ Own w' e v' (xs ++ news) ∧ Keeps (fun k => v.ownBlock = some k) w w' ∧
      (v'.ownBlock = v.ownBlock ∧ w'.heap.size = w.heap.size ∨ v'.ownBlock = some w.heap.size ∧ w'.heap.size = w.heap.size + 1) := by
  obtain ⟨i, hi, hz, hsize, hby⟩ := info_parts hinfo
  subst hby
  have hsmall : xs.length + news.length ≤ 9223372036854775807 := by simp only [maxLen] at h63; omega
  have hl : news.length = news.length * i.size := by rw [hsize, Nat.mul_one]
  have grown : ∀ old : Nat, Own (w.drew.alloc (.cells (xs.toArray ++ news.toArray ++ Builtin.zeroCells z.cells (grownCap w (xs.length + news.length) old e - (xs.length + news.length))) e)) e
        (.slice (some ⟨w.heap.size, 0, none⟩) (xs.length + news.length) (grownCap w (xs.length + news.length) old e)) (xs ++ news) := by
    intro old
    have hge := grownCap_ge w (xs.length + news.length) old e
    have hcm : grownCap w (xs.length + news.length) old e ≤ maxLen := grownCap_le_maxLen w _ old e h63
    refine .inr ⟨w.heap.size, (Builtin.zeroCells z.cells (grownCap w (xs.length + news.length) old e - (xs.length + news.length))).toList, ?_, ?_, ?_⟩
    · rw [zeroCells_length z hz1, List.length_append]; congr 1; omega
    · have := heap_alloc_new w.drew (.cells (xs.toArray ++ news.toArray ++ Builtin.zeroCells z.cells (grownCap w (xs.length + news.length) old e - (xs.length + news.length))) e)
      unfold Row; rw [show w.heap.size = w.drew.heap.size from rfl, this]; simp
    · rw [zeroCells_length z hz1, List.length_append]; omega
  rcases hown with ⟨rfl, rfl⟩ | ⟨g, tail, rfl, hr, hm⟩
  · have hrun := run_append_nil (P := P) w t ty e i z ht hi hz a news.length c news hl hnews hpos (by simp only [List.length_nil, Nat.zero_add] at hsmall; omega) (by simp only [List.length_nil, Nat.zero_add] at hbytes; omega)
    have hgr := grown 0
    simp only [List.length_nil, Nat.zero_add, List.nil_append, Array.empty_append] at hgr ⊢
    exact ⟨_, _, hrun, hgr, (Keeps.refl _ _).drew.alloc _, .inr ⟨rfl, by simp⟩⟩
  · by_cases hroom : xs.length + news.length ≤ xs.length + tail.length
    · have hrun := run_append_room (P := P) w t ty e i ht hi g xs.length (xs.length + tail.length) (xs ++ tail).toArray hr a news.length c news hl hnews h1 hroom (by rw [hsize]; simp; omega)
      refine ⟨_, _, hrun, .inr ⟨g, tail.drop news.length, ?_, ?_, ?_⟩, (Keeps.refl (fun k => Value.ownBlock (.slice (some ⟨g, 0, none⟩) xs.length (xs.length + tail.length)) = some k) w).setRow (.inr rfl) _, .inl ⟨rfl, by simp⟩⟩
      · rw [List.length_append, List.length_drop]; congr 1; omega
      · have h := Row.setRow hr (List.take (xs.length * i.size) (xs ++ tail).toArray.toList ++ news ++ List.drop (xs.length * i.size + news.length) (xs ++ tail).toArray.toList)
        have e1 : List.take (xs.length * i.size) (xs ++ tail).toArray.toList ++ news ++ List.drop (xs.length * i.size + news.length) (xs ++ tail).toArray.toList = xs ++ news ++ tail.drop news.length := by
          rw [hsize, Nat.mul_one]; simp
        rw [e1] at h ⊢; exact h
      · rw [List.length_append, List.length_drop]; omega
    · have hrun := run_append_grow (P := P) w t ty e i z ht hi hz ⟨g, 0, none⟩ xs.length (xs.length + tail.length) xs (by rw [hsize, Nat.mul_one]) (by
          intro j u hj
          have e1 := add_zero_off g j
          have hlt : j < xs.length := (List.getElem?_eq_some_iff.1 hj).1
          rw [e1, hr.cell, List.getElem?_append_left hlt]; exact hj) a news.length c news hl hnews (by omega) (by omega) (growslice_fits (by omega) hbytes)
      exact ⟨_, _, hrun, grown _, (Keeps.refl _ _).drew.alloc _, .inr ⟨rfl, by simp⟩⟩

theorem wpList_append_Own {P : Program} {w : World} {ops : Array Oper} {rest : List Oper} {o : Oper} {a : Act} {Q : Exit → Act → World → Prop} (hgd : o.guard = none) (s x : Operand) (t : TypeId)
    (ho : o.op = .call { callee := .builtin .append, args := #[s, x], argTypes := #[t, t] }) (e : TypeId) (z : Value) (bytes : Nat) (ht : P.underlying t = some (.slice e)) (hinfo : (P.info? e).map (fun i => (i.zero, i.size, i.bytes)) = some (some z, 1, bytes)) (hz1 : z.cells.size = 1)
    (v : Value) (xs : List Value) (hs : a.eval s = v) (hown : Own w e v xs) (ad : Addr) (m c : Nat) (news : List Value) (hx : a.eval x = .slice (some ad) m c) (hl : news.length = m) (hnews : ∀ j u, news[j]? = some u → w.cell? (ad.add j) = some u) (h1 : ∀ u ∈ news, u.oneCell' = true) (hpos : 0 < m)
    (h63 : xs.length + m ≤ maxLen) (hbytes : (xs.length + m) * bytes ≤ 140737488355328)
    (h : ∀ v' w', Own w' e v' (xs ++ news) → Keeps (fun k => v.ownBlock = some k) w w' → Hid (v'.ownBlock = v.ownBlock ∧ w'.heap.size = w.heap.size ∨ v'.ownBlock = some w.heap.size ∧ w'.heap.size = w.heap.size + 1) → wpList P ops Q rest (a.put o.dst v') w') :
    wpList P ops Q (o :: rest) a w := by
  refine wpList_plain hgd fun K hK => ?_
  subst hl
  obtain ⟨v', w', hr, h2, h3, h4⟩ := run_append_Own (P := P) w t o.type e z bytes ht hinfo hz1 v xs hown ad c news hnews h1 hpos h63 hbytes
  unfold Oper.wp execOp
  simp only [ho, resolve, invoke, builtin, Sem.run_bind, Sem.run_pure, Result.andThen_ok, List.map_toArray, List.map_cons, List.map_nil, hs, hx, hr]
  exact hK _ _ (h v' w' h2 h3 h4)

theorem wp_append_Own {P : Program} {w : World} {o : Oper} {a : Act} {K : Act → World → Prop} {Q : Exit → Act → World → Prop} (s x : Operand) (t : TypeId)
    (ho : o.op = .call { callee := .builtin .append, args := #[s, x], argTypes := #[t, t] }) (e : TypeId) (z : Value) (bytes : Nat) (ht : P.underlying t = some (.slice e)) (hinfo : (P.info? e).map (fun i => (i.zero, i.size, i.bytes)) = some (some z, 1, bytes)) (hz1 : z.cells.size = 1)
    (v : Value) (xs : List Value) (hs : a.eval s = v) (hown : Own w e v xs) (ad : Addr) (m c : Nat) (news : List Value) (hx : a.eval x = .slice (some ad) m c) (hl : news.length = m) (hnews : ∀ j u, news[j]? = some u → w.cell? (ad.add j) = some u) (h1 : ∀ u ∈ news, u.oneCell' = true) (hpos : 0 < m)
    (h63 : xs.length + m ≤ maxLen) (hbytes : (xs.length + m) * bytes ≤ 140737488355328)
    (h : ∀ v' w', Own w' e v' (xs ++ news) → Keeps (fun k => v.ownBlock = some k) w w' → Hid (v'.ownBlock = v.ownBlock ∧ w'.heap.size = w.heap.size ∨ v'.ownBlock = some w.heap.size ∧ w'.heap.size = w.heap.size + 1) → K (a.put o.dst v') w') :
    o.wp P a w K Q := by
  subst hl
  obtain ⟨v', w', hr, h2, h3, h4⟩ := run_append_Own (P := P) w t o.type e z bytes ht hinfo hz1 v xs hown ad c news hnews h1 hpos h63 hbytes
  unfold Oper.wp execOp
  simp only [ho, resolve, invoke, builtin, Sem.run_bind, Sem.run_pure, Result.andThen_ok, List.map_toArray, List.map_cons, List.map_nil, hs, hx, hr]
  exact h v' w' h2 h3 h4

end Dp
end Go.Proofs.Ytdipojfngdceoaa
