/- Steps on the way: Memo, OwnRow, PureDig, IndexAgg, RegionLate, RegionLate2, Invoke, Returned. -/
import Derived.Test.YtdipojfngdceoaaDoorPack56
import Derived.Test.YtdipojfngdceoaaDoorPack57
import Derived.WalkKit
import Derived.WalkSpells
import Derived.Test.YtdipojfngdceoaaDoorProg
import Derived.WalkLawsBesides
import Derived.StillTail
import Derived.OrdersHeld
import Derived.Test.YtdipojfngdceoaaDoorRows
/- A memory as a core reaches it, whatever it is: what is loaded, stored, told; what an instruction and a step do over it. No program is named here. -/
namespace Go.Proofs.YtdipojfngdceoaaDoor
namespace Dp
open Go.RowKit

/-- A memory: none where a reach for it is given up. -/
structure Memo (σ : Type) where
  load : σ → Int → Option (σ × Int × Int)
  store : σ → Int → Int → Option (σ × Int)
  source : σ → Int → Option (σ × List UInt8 × Int)

/-- The state behind an instruction that puts a word into R[A], but for the steps. -/
def putted (s : Cs) (i : Ins) (v : Int) : Cs := { s with pc := wrap (s.pc + 1), regs := s.regs.set i.a.toNat v }
/-- The state behind an instruction that jumps or not, but for the steps. -/
def jumped (s : Cs) (i : Ins) (b : Bool) : Cs := { s with pc := wrap (wrap (s.pc + 1) + one b * i.n) }
/-- An instruction without a cell or a source, but for the steps. -/
def still (s : Cs) (i : Ins) : Cs × Int := ({ (plain s i).1 with steps := s.steps }, (plain s i).2)

/-- What holds behind what may be given up. -/
def after {α : Type} (o : Option α) (bad : Prop) (good : α → Prop) : Prop := match o with
  | none => bad
  | some r => good r
theorem after_none {α : Type} (bad : Prop) (good : α → Prop) : after none bad good = bad := rfl
theorem after_some {α : Type} (r : α) (bad : Prop) (good : α → Prop) : after (some r) bad good = good r := rfl

section
variable {σ : Type}
/-- An instruction, but for the steps. -/
def perform (M : Memo σ) (s : Cs) (m : σ) (i : Ins) : Option (Cs × σ × Int) :=
  if i.op = 13 then
    match M.load m (wrap (s.reg i.b + i.n)) with
    | none => none
    | some r => if r.2.2 ≠ 0 then some (s, r.1, r.2.2) else some (putted s i r.2.1, r.1, 0)
  else if i.op = 14 then
    match M.store m (wrap (s.reg i.b + i.n)) (s.reg i.a) with
    | none => none
    | some r => if r.2 ≠ 0 then some (s, r.1, r.2) else some ({ s with pc := wrap (s.pc + 1) }, r.1, 0)
  else if i.op = 19 then
    match M.source m (s.reg i.b) with
    | none => none
    | some r => if r.2.2 ≠ 0 then some (s, r.1, r.2.2) else some (putted s i (told r.2.1 (s.reg i.c)), r.1, 0)
  else some ((still s i).1, m, (still s i).2)
/-- A step. -/
def coreStep (M : Memo σ) (s : Cs) (m : σ) : Option (Cs × σ × Int) :=
  if s.over then some (s, m, 0) else
    match M.load m s.pc with
    | none => none
    | some r => if r.2.2 ≠ 0 then some (s, r.1, r.2.2) else
      match perform M s r.1 (decode r.2.1) with
      | none => none
      | some q => if q.2.2 ≠ 0 then some q else some ({ q.1 with steps := wrap (q.1.steps + 1) }, q.2.1, 0)

/-- Behind the interface value (T, x), at the core's block p, there lies such a memory; F: its own blocks. -/
structure MemOk (P : Program) (p : Nat) (T : TypeId) (x : Value) (M : Memo σ) (F : World → Nat → Prop) (Inv : World → σ → Prop) (Bad : World → Prop) (g : List PanicEntry) : Prop where
  keep : ∀ {w w' : World} {m : σ}, Inv w m → Keeps (fun k => k = p) w w' → Inv w' m ∧ ∀ k, F w' k → F w k
  foot : ∀ {w : World} {m : σ} {k : Nat}, Inv w m → F w k → k < w.heap.size ∧ k ≠ p
  word : ∀ {w : World} {m : σ} {n : Int} {r : σ × Int × Int}, Inv w m → isWord n → M.load m n = some r → isWord r.2.1
  load : ∀ (w : World) (m : σ) (n : Int), isWord n → Inv w m → ∃ f args, (∀ wx, (callMethod (.iface T x) "Load" #[.int .u32 n]).run P wx = .ok (.enter f args) wx) ∧
    Calls P f args w fun e w' => after (M.load m n) (e = .panicked g ∧ Bad w') fun r => e = .returned (.tuple #[.int .u32 r.2.1, .int .i64 r.2.2]) ∧ isWord r.2.1 ∧ (0 ≤ r.2.2 ∧ r.2.2 < 8) ∧ Inv w' r.1 ∧ Keeps (F w) w w'
  store : ∀ (w : World) (m : σ) (n v : Int), isWord n → isWord v → Inv w m → ∃ f args, (∀ wx, (callMethod (.iface T x) "Store" #[.int .u32 n, .int .u32 v]).run P wx = .ok (.enter f args) wx) ∧
    Calls P f args w fun e w' => after (M.store m n v) (e = .panicked g ∧ Bad w') fun r => e = .returned (.int .i64 r.2) ∧ (0 ≤ r.2 ∧ r.2 < 8) ∧ Inv w' r.1 ∧ Keeps (F w) w w'
  source : ∀ (w : World) (m : σ) (n : Int), isWord n → Inv w m → ∃ f args, (∀ wx, (callMethod (.iface T x) "Source" #[.int .u32 n]).run P wx = .ok (.enter f args) wx) ∧
    Calls P f args w fun e w' => after (M.source m n) (e = .panicked g ∧ Bad w') fun r => (∃ v, e = .returned (.tuple #[v, .int .i64 r.2.2]) ∧ Bytes w' v r.2.1) ∧ (0 ≤ r.2.2 ∧ r.2.2 < 8) ∧ Inv w' r.1 ∧ Keeps (F w) w w'
end

theorem still_of (s : Cs) (i : Ins) (hp : isPlain i.op = true) (hd : ¬ (i.op = 10 ∧ s.reg i.c = 0)) : still s i = ({ pc := nextOf s i, steps := s.steps, code := if i.op = 0 then s.reg i.a else s.code, over := if i.op = 0 then true else s.over, regs := s.regs.set i.a.toNat (aluOf s i) }, 0) := by
  unfold still plain; rw [hp]; simp [hd]
theorem set_self (s : Cs) (h : s.regs.length = 8) (a : Int) (ha : 0 ≤ a ∧ a < 8) : s.regs.set a.toNat (s.reg a) = s.regs := by
  have hlt : a.toNat < s.regs.length := by omega
  unfold Cs.reg
  rw [List.getD_eq_getElem?_getD, List.getElem?_eq_getElem hlt]
  simp
/-- What each instruction without a cell or a source comes to. -/
theorem still_put (s : Cs) (i : Ins) (hp : isPlain i.op = true) (hd : ¬ (i.op = 10 ∧ s.reg i.c = 0)) (h0 : i.op ≠ 0) (h15 : i.op < 15) : still s i = (putted s i (aluOf s i), 0) := by
  rw [still_of s i hp hd]
  unfold putted nextOf
  have h1 : i.op ≠ 15 := by omega
  have h2 : i.op ≠ 16 := by omega
  have h3 : i.op ≠ 17 := by omega
  have h4 : i.op ≠ 18 := by omega
  simp [h0, h1, h2, h3, h4]

end Dp
end Go.Proofs.YtdipojfngdceoaaDoor

/- A slice of elements of one cell each that the call has made for itself, and append onto it: what it holds, where it lies, what has turned. It holds of every program. -/
namespace Go.Proofs.YtdipojfngdceoaaDoor
namespace Dp
open Go.RowKit

/-- The slice value v is nil and holds nothing, or lies at the head of a row of its own whose first cells are xs. -/
def Own (w : World) (e : TypeId) (v : Value) (xs : List Value) : Prop :=
  (v = .slice none 0 0 ∧ xs = []) ∨
  ∃ g tail, v = .slice (some ⟨g, 0, none⟩) xs.length (xs.length + tail.length) ∧ Row w g e (xs ++ tail) ∧ xs.length + tail.length ≤ maxLen

theorem Own.nil (w : World) (e : TypeId) : Own w e (.slice none 0 0) [] := .inl ⟨rfl, rfl⟩
theorem Own.lt {w : World} {e : TypeId} {v : Value} {xs : List Value} (h : Own w e v xs) : ∀ g, v.ownBlock = some g → g < w.heap.size := by
  rintro g hg
  rcases h with ⟨rfl, _⟩ | ⟨g', tail, rfl, hr, _⟩
  · simp [Value.ownBlock] at hg
  · simp [Value.ownBlock] at hg; subst hg; exact hr.lt
theorem Own.keep {S : Nat → Prop} {w w' : World} {e : TypeId} {v : Value} {xs : List Value} (h : Own w e v xs) (k : Keeps S w w') (hs : ∀ g, v.ownBlock = some g → ¬ S g) : Own w' e v xs := by
  rcases h with h | ⟨g, tail, rfl, hr, hm⟩
  · exact .inl h
  · exact .inr ⟨g, tail, rfl, hr.keep k (hs g rfl), hm⟩
theorem Own.ne {w : World} {e f : TypeId} {v : Value} {xs cs : List Value} {b : Nat} (h : Own w e v xs) (hb : Row w b f cs) (hef : f ≠ e) : ∀ g, v.ownBlock = some g → g ≠ b := by
  rintro g hg rfl
  rcases h with ⟨rfl, _⟩ | ⟨g', tail, rfl, hr, _⟩
  · simp [Value.ownBlock] at hg
  · simp [Value.ownBlock] at hg; subst hg; exact hb.ne hr hef rfl
theorem Own.alloc {w : World} {e : TypeId} {v : Value} {xs : List Value} (h : Own w e v xs) (o : Obj) : Own (w.alloc o) e v xs := by
  rcases h with h | ⟨g, tail, rfl, hr, hm⟩
  · exact .inl h
  · exact .inr ⟨g, tail, rfl, hr.allocOld o, hm⟩
theorem Own.drew {w : World} {e : TypeId} {v : Value} {xs : List Value} (h : Own w e v xs) : Own w.drew e v xs := h
theorem Own.isSlice {w : World} {e : TypeId} {v : Value} {xs : List Value} (h : Own w e v xs) : ∃ ad cap, v = .slice ad xs.length cap := by
  rcases h with ⟨rfl, rfl⟩ | ⟨g, tail, rfl, _, _⟩
  · exact ⟨none, 0, rfl⟩
  · exact ⟨_, _, rfl⟩

theorem zeroCells_length (z : Value) (hz : z.cells.size = 1) (n : Nat) : (Builtin.zeroCells z.cells n).toList.length = n := by simp [size_zeroCells, hz]

/-- append onto a slice of the call's own. -/
theorem run_append_Own {P : Program} (w : World) (t ty e : TypeId) (z : Value) (bytes : Nat) (ht : P.underlying t = some (.slice e)) (hinfo : (P.info? e).map (fun i => (i.zero, i.size, i.bytes)) = some (some z, 1, bytes)) (hz1 : z.cells.size = 1)
    (v : Value) (xs : List Value) (hown : Own w e v xs) (a : Addr) (c : Nat) (news : List Value) (hnews : ∀ j u, news[j]? = some u → w.cell? (a.add j) = some u) (h1 : ∀ u ∈ news, u.oneCell' = true) (hpos : 0 < news.length)
    (h63 : xs.length + news.length ≤ maxLen) (hbytes : (xs.length + news.length) * bytes ≤ 140737488355328) :
    ∃ v' w', (Builtin.append_ #[t, t] ty #[v, .slice (some a) news.length c]).run P w = .ok v' w' ∧ Own w' e v' (xs ++ news) ∧ Keeps (fun k => v.ownBlock = some k) w w' ∧
      (v'.ownBlock = v.ownBlock ∧ w'.heap.size = w.heap.size ∨ v'.ownBlock = some w.heap.size ∧ w'.heap.size = w.heap.size + 1) := by
  obtain ⟨i, hi, hz, hsize, hby⟩ := info_parts hinfo
  subst hby
  have hsmall : xs.length + news.length ≤ 9223372036854775807 := by simp only [maxLen] at h63; omega
  have hl : news.length = news.length * i.size := by rw [hsize, Nat.mul_one]
  have grown : ∀ old : Nat, Own (w.drew.alloc (.cells (xs.toArray ++ news.toArray ++ Builtin.zeroCells z.cells (grownCap w (xs.length + news.length) old e - (xs.length + news.length))) e)) e
        (.slice (some ⟨w.heap.size, 0, none⟩) (xs.length + news.length) (grownCap w (xs.length + news.length) old e)) (xs ++ news) := by
    intro old
    have hge := grownCap_ge w (xs.length + news.length) old e
    have hcm : grownCap w (xs.length + news.length) old e ≤ maxLen := grownCap_le_maxLen w _ old e h63
    refine .inr ⟨w.heap.size, (Builtin.zeroCells z.cells (grownCap w (xs.length + news.length) old e - (xs.length + news.length))).toList, ?_, ?_, ?_⟩
    · rw [zeroCells_length z hz1, List.length_append]; congr 1; omega
    · have := heap_alloc_new w.drew (.cells (xs.toArray ++ news.toArray ++ Builtin.zeroCells z.cells (grownCap w (xs.length + news.length) old e - (xs.length + news.length))) e)
      unfold Row; rw [show w.heap.size = w.drew.heap.size from rfl, this]; simp
    · rw [zeroCells_length z hz1, List.length_append]; omega
  rcases hown with ⟨rfl, rfl⟩ | ⟨g, tail, rfl, hr, hm⟩
  · have hrun := run_append_nil (P := P) w t ty e i z ht hi hz a news.length c news hl hnews hpos (by simp only [List.length_nil, Nat.zero_add] at hsmall; omega) (by simp only [List.length_nil, Nat.zero_add] at hbytes; omega)
    have hgr := grown 0
    simp only [List.length_nil, Nat.zero_add, List.nil_append, Array.empty_append] at hgr ⊢
    exact ⟨_, _, hrun, hgr, (Keeps.refl _ _).drew.alloc _, .inr ⟨rfl, by simp⟩⟩
  · by_cases hroom : xs.length + news.length ≤ xs.length + tail.length
    · have hrun := run_append_room (P := P) w t ty e i ht hi g xs.length (xs.length + tail.length) (xs ++ tail).toArray hr a news.length c news hl hnews h1 hroom (by rw [hsize]; simp; omega)
      refine ⟨_, _, hrun, .inr ⟨g, tail.drop news.length, ?_, ?_, ?_⟩, (Keeps.refl (fun k => Value.ownBlock (.slice (some ⟨g, 0, none⟩) xs.length (xs.length + tail.length)) = some k) w).setRow (.inr rfl) _, .inl ⟨rfl, by simp⟩⟩
      · rw [List.length_append, List.length_drop]; congr 1; omega
      · have h := Row.setRow hr (List.take (xs.length * i.size) (xs ++ tail).toArray.toList ++ news ++ List.drop (xs.length * i.size + news.length) (xs ++ tail).toArray.toList)
        have e1 : List.take (xs.length * i.size) (xs ++ tail).toArray.toList ++ news ++ List.drop (xs.length * i.size + news.length) (xs ++ tail).toArray.toList = xs ++ news ++ tail.drop news.length := by
          rw [hsize, Nat.mul_one]; simp
        rw [e1] at h ⊢; exact h
      · rw [List.length_append, List.length_drop]; omega
    · have hrun := run_append_grow (P := P) w t ty e i z ht hi hz ⟨g, 0, none⟩ xs.length (xs.length + tail.length) xs (by rw [hsize, Nat.mul_one]) (by
          intro j u hj
          have e1 := add_zero_off g j
          have hlt : j < xs.length := (List.getElem?_eq_some_iff.1 hj).1
          rw [e1, hr.cell, List.getElem?_append_left hlt]; exact hj) a news.length c news hl hnews (by omega) (by omega) (growslice_fits (by omega) hbytes)
      exact ⟨_, _, hrun, grown _, (Keeps.refl _ _).drew.alloc _, .inr ⟨rfl, by simp⟩⟩

theorem wpList_append_Own {P : Program} {w : World} {ops : Array Oper} {rest : List Oper} {o : Oper} {a : Act} {Q : Exit → Act → World → Prop} (hgd : o.guard = none) (s x : Operand) (t : TypeId)
    (ho : o.op = .call { callee := .builtin .append, args := #[s, x], argTypes := #[t, t] }) (e : TypeId) (z : Value) (bytes : Nat) (ht : P.underlying t = some (.slice e)) (hinfo : (P.info? e).map (fun i => (i.zero, i.size, i.bytes)) = some (some z, 1, bytes)) (hz1 : z.cells.size = 1)
    (v : Value) (xs : List Value) (hs : a.eval s = v) (hown : Own w e v xs) (ad : Addr) (m c : Nat) (news : List Value) (hx : a.eval x = .slice (some ad) m c) (hl : news.length = m) (hnews : ∀ j u, news[j]? = some u → w.cell? (ad.add j) = some u) (h1 : ∀ u ∈ news, u.oneCell' = true) (hpos : 0 < m)
    (h63 : xs.length + m ≤ maxLen) (hbytes : (xs.length + m) * bytes ≤ 140737488355328)
    (h : ∀ v' w', Own w' e v' (xs ++ news) → Keeps (fun k => v.ownBlock = some k) w w' → Hid (v'.ownBlock = v.ownBlock ∧ w'.heap.size = w.heap.size ∨ v'.ownBlock = some w.heap.size ∧ w'.heap.size = w.heap.size + 1) → wpList P ops Q rest (a.put o.dst v') w') :
    wpList P ops Q (o :: rest) a w := by
  refine wpList_plain hgd fun K hK => ?_
  subst hl
  obtain ⟨v', w', hr, h2, h3, h4⟩ := run_append_Own (P := P) w t o.type e z bytes ht hinfo hz1 v xs hown ad c news hnews h1 hpos h63 hbytes
  unfold Oper.wp execOp
  simp only [ho, resolve, invoke, builtin, Sem.run_bind, Sem.run_pure, Result.andThen_ok, List.map_toArray, List.map_cons, List.map_nil, hs, hx, hr]
  exact hK _ _ (h v' w' h2 h3 h4)

theorem wp_append_Own {P : Program} {w : World} {o : Oper} {a : Act} {K : Act → World → Prop} {Q : Exit → Act → World → Prop} (s x : Operand) (t : TypeId)
    (ho : o.op = .call { callee := .builtin .append, args := #[s, x], argTypes := #[t, t] }) (e : TypeId) (z : Value) (bytes : Nat) (ht : P.underlying t = some (.slice e)) (hinfo : (P.info? e).map (fun i => (i.zero, i.size, i.bytes)) = some (some z, 1, bytes)) (hz1 : z.cells.size = 1)
    (v : Value) (xs : List Value) (hs : a.eval s = v) (hown : Own w e v xs) (ad : Addr) (m c : Nat) (news : List Value) (hx : a.eval x = .slice (some ad) m c) (hl : news.length = m) (hnews : ∀ j u, news[j]? = some u → w.cell? (ad.add j) = some u) (h1 : ∀ u ∈ news, u.oneCell' = true) (hpos : 0 < m)
    (h63 : xs.length + m ≤ maxLen) (hbytes : (xs.length + m) * bytes ≤ 140737488355328)
    (h : ∀ v' w', Own w' e v' (xs ++ news) → Keeps (fun k => v.ownBlock = some k) w w' → Hid (v'.ownBlock = v.ownBlock ∧ w'.heap.size = w.heap.size ∨ v'.ownBlock = some w.heap.size ∧ w'.heap.size = w.heap.size + 1) → K (a.put o.dst v') w') :
    o.wp P a w K Q := by
  subst hl
  obtain ⟨v', w', hr, h2, h3, h4⟩ := run_append_Own (P := P) w t o.type e z bytes ht hinfo hz1 v xs hown ad c news hnews h1 hpos h63 hbytes
  unfold Oper.wp execOp
  simp only [ho, resolve, invoke, builtin, Sem.run_bind, Sem.run_pure, Result.andThen_ok, List.map_toArray, List.map_cons, List.map_nil, hs, hx, hr]
  exact h v' w' h2 h3 h4

end Dp
end Go.Proofs.YtdipojfngdceoaaDoor

/- Digests of cells, and cells of numbers: no function of a program is named here. -/
namespace Go.Proofs.YtdipojfngdceoaaDoor
open Go.RowKit

namespace Dp
theorem Row.intAt {w : World} {g : Nat} {e : TypeId} {l : List Int} {tail : List Value} (h : Row w g e (regCells l ++ tail)) (j : Nat) (hj : j < l.length) : w.cell? ⟨g, j, none⟩ = some (.int .i64 (l.getD j 0)) := by
  rw [h.cell, List.getElem?_append_left (by simpa [regCells] using hj)]
  simp [regCells, hj, List.getD_eq_getElem?_getD]
theorem digest_zero (cells : List Int) (at_ : Nat) : digest cells at_ 0 = sum (0 :: four (cells.getD at_ 0)) := rfl
theorem digest_succ (cells : List Int) (at_ d : Nat) : digest cells at_ (d + 1) = sum (1 :: (two (digest cells at_ d) ++ two (digest cells (at_ + 2 ^ d) d))) := rfl
theorem root_bd (cells : List Int) : 0 ≤ root cells ∧ root cells < 65521 := digest_bd cells 0 8
end Dp

end Go.Proofs.YtdipojfngdceoaaDoor

/- An array that is a value is read at an index. It holds of every program. -/
namespace Go.Proofs.YtdipojfngdceoaaDoor
namespace Dp
open Go

theorem run_index_one {P : Program} (w : World) (t e : TypeId) (len : Nat) (cs : Array Value) (k : Nat) (v : Value) (ht : (underlying t).run P w = .ok (.array len e) w) (hagg : (isAgg e).run P w = .ok false w) (hsz : (sizeOf e).run P w = .ok 1 w) (hk : k < len) (hv : cs[k]? = some v) :
    (Instr.index t (.agg cs) (.int .i64 k)).run P w = .ok v w := by
  have h0 : (0 : Int) ≤ k ∧ (k : Int) < len := by omega
  unfold Instr.index
  simp only [asIntOf, Sem.run_bind, Sem.run_pure, Result.andThen_ok, ht, h0, and_self, if_true, hsz, part, hagg, Int.toNat_natCast, Nat.mul_one, hv, Bool.false_eq_true, if_false]
end Dp
end Go.Proofs.YtdipojfngdceoaaDoor

/- A region that draws its order, reads memory and ends in one operation that writes and waits for all others, be it through others: the reads are taken first. It holds of every program. -/
namespace Go.Proofs.YtdipojfngdceoaaDoor
namespace Dp
open Go

/-- The operations that wait for number i, be it through others. -/
def lateB (md : Region.Mode) (ops : Array Oper) (i : Nat) : List Nat :=
  (List.range ops.size).foldl (fun D k => match ops[k]? with
    | some ok => if ok.after.any fun e => Region.binds md e && (e.on == i || D.contains e.on) then k :: D else D
    | none => D) []
/-- They do, and none of them is listed yet; all from number n on are of them. -/
def lateOk (md : Region.Mode) (ops : Array Oper) (listed : Array Bool) (i n : Nat) (D : List Nat) : Bool :=
  ((List.range ops.size).all fun k => decide (k < n) || D.contains k) && D.all fun k => (match ops[k]? with
    | some ok => ok.after.any fun e => Region.binds md e && (e.on == i || D.contains e.on)
    | none => false) && !listed.getD k true

section
variable {P : Program} {md : Region.Mode} {ops : Array Oper} {Q : Exit → Act → World → Prop} {S : World → Prop} {n : Nat}

/-- Whatever order is picked from here on; S holds behind every operation whose number is below n. -/
def wpAnyL (P : Program) (md : Region.Mode) (ops : Array Oper) (Q : Exit → Act → World → Prop) (S : World → Prop) (n : Nat) : Nat → Array Bool → Act → World → Prop
  | 0, listed, a, w => Region.ready md ops listed = [] ∧ Q .normal a w
  | fuel + 1, listed, a, w =>
    (Region.ready md ops listed = [] → Q .normal a w) ∧
    ∀ i ∈ Region.ready md ops listed, wpOp P ops Q i (fun a' w' => (i < n → S w') ∧ wpAnyL P md ops Q S n fuel (listed.setIfInBounds i true) a' w') a w

theorem wpAny_of_L : ∀ (fuel : Nat) (listed : Array Bool) (a : Act) (w : World), wpAnyL P md ops Q S n fuel listed a w → wpAny P md ops Q fuel listed a w
  | 0, _, _, _, h => h
  | fuel + 1, _, _, _, h => ⟨h.1, fun i hi => wpOp_mono (fun a' w' h' => wpAny_of_L fuel _ a' w' h'.2) (h.2 i hi)⟩

theorem late_not {listed : Array Bool} {i j : Nat} {D : List Nat} (hi : listed.getD i true = false) (hD : ∀ k ∈ D, ∃ ok, ops[k]? = some ok ∧ ∃ e ∈ ok.after, Region.binds md e = true ∧ (e.on = i ∨ e.on ∈ D)) (hun : ∀ k ∈ D, listed.getD k true = false) (hj : j ∈ Region.ready md ops listed) : j ∉ D := by
  intro hjD
  obtain ⟨_, oj, hoj, hall⟩ := mem_ready.1 hj
  obtain ⟨ok, hok, e, he, hb, hon⟩ := hD j hjD
  have : ok = oj := Option.some.inj (hok.symm.trans hoj)
  subst this
  have h1 := hall e he hb
  have h0 : listed.getD e.on true = false := hon.elim (fun h => h ▸ hi) (fun h => hun _ h)
  have h2 := getD_both h0
  rcases Nat.lt_or_ge e.on listed.size with h' | h'
  · simp [h'] at h1 h2; rw [h2] at h1; cases h1
  · simp [Array.getElem?_eq_none h'] at h1

theorem wpAnyL_first {i : Nat} {oi : Oper} {v : Value} {D : List Nat} (hi : ops[i]? = some oi) (hsel : ∀ (j : Nat) (o : Oper) cs b, ops[j]? = some o → o.op ≠ .select cs b) (hnD : ∀ k, n ≤ k → k < ops.size → k ∈ D)
    (hD : ∀ k ∈ D, ∃ ok, ops[k]? = some ok ∧ ∃ e ∈ ok.after, Region.binds md e = true ∧ (e.on = i ∨ e.on ∈ D))
    (hQ : ∀ c a w, Q (.panic c) (a.put oi.dst v) w → Q (.panic c) a w) :
    ∀ (fuel : Nat) (listed : Array Bool) (a : Act) (w : World), (∀ k ∈ D, listed.getD k true = false) →
      (∀ j oj, ops[j]? = some oj → j ≠ i → listed.getD j true = false → (∀ e ∈ oj.after, Region.binds md e = true → e.on ≠ i) → oi.apart ops oj = true) →
      i ∈ Region.ready md ops listed → YieldsIf P ops S oi v a → S w →
      wpAnyL P md ops Q S n fuel (listed.setIfInBounds i true) (a.put oi.dst v) w → wpAnyL P md ops Q S n (fuel + 1) listed a w := by
  intro fuel
  induction fuel with
  | zero =>
    intro listed a w _ _ hr hy hS H
    refine ⟨fun h => (by rw [h] at hr; cases hr), fun j hj => ?_⟩
    by_cases hji : j = i
    · subst hji; exact hy.wpOp hi hS ⟨fun _ => hS, H⟩
    · have := ready_mono hj hji
      rw [H.1] at this
      cases this
  | succ fuel ih =>
    intro listed a w hun hfree hr hy hS H
    refine ⟨fun h => (by rw [h] at hr; cases hr), fun j hj => ?_⟩
    by_cases hji : j = i
    · subst hji; exact hy.wpOp hi hS ⟨fun _ => hS, H⟩
    · have h1 := H.2 j (ready_mono hj hji)
      obtain ⟨hjun, oj, hoj, hall⟩ := mem_ready.1 hj
      have hnot : ∀ e ∈ oj.after, Region.binds md e = true → e.on ≠ i := fun e he hb heq => by
        have h1 := hall e he hb
        have h0 := (mem_ready.1 hr).1
        rw [heq] at h1
        rcases Nat.lt_or_ge i listed.size with h' | h'
        · simp [h'] at h0 h1; rw [h0] at h1; cases h1
        · simp [Array.getElem?_eq_none h'] at h1
      have hjD : j ∉ D := late_not (mem_ready.1 hr).1 hD hun hj
      have hjs : j < ops.size := (Array.getElem?_eq_some_iff.1 hoj).1
      have hjn : j < n := by
        rcases Nat.lt_or_ge j n with h | h
        · exact h
        · exact absurd (hnD j h hjs) hjD
      have h2 := wpOp_putIf hoj (hfree j oj hoj hji hjun hnot) (fun cs b => hsel i oi cs b hi) (fun cs b => hsel j oj cs b hoj) hQ hy h1
      have hset : ∀ k, k ≠ j → listed.getD k true = false → (listed.setIfInBounds j true).getD k true = false := fun k hk h => by rw [getD_set_ne true (Ne.symm hk)]; exact h
      have hfree' : ∀ k ok, ops[k]? = some ok → k ≠ i → (listed.setIfInBounds j true).getD k true = false →
          (∀ e ∈ ok.after, Region.binds md e = true → e.on ≠ i) → oi.apart ops ok = true := fun k ok hk hki hun' hno => by
        refine hfree k ok hk hki ?_ hno
        by_cases hjk : j = k
        · subst hjk; exact hjun
        · rw [getD_set_ne true hjk] at hun'; exact hun'
      refine wpOp_mono (fun a' w' h3 => ⟨fun _ => h3.2.1 hjn, ih (listed.setIfInBounds j true) a' w' (fun k hk => hset k (fun e => hjD (e ▸ hk)) (hun k hk)) hfree' (ready_mono hr (Ne.symm hji)) h3.1 (h3.2.1 hjn) ?_⟩) h2
      rw [Array.setIfInBounds_comm _ _ hji]
      exact h3.2.2

/-- Take number i first: it yields v in every world that meets S; number n, behind which S need not hold, waits for it, be it through others. -/
theorem wpAnyL_take (i : Nat) {oi : Oper} {v : Value} {fuel : Nat} {listed : Array Bool} {a : Act} {w : World} (hi : ops[i]? = some oi)
    (hs : (Region.noSelect ops && Region.free md ops listed i && (Region.ready md ops listed).contains i && lateOk md ops listed i n (lateB md ops i)) = true)
    (hQ : ∀ c a w, Q (.panic c) (a.put oi.dst v) w → Q (.panic c) a w) (hg : Region.wanted oi (yielded ops a.tmps) = true) (hy : ∀ wx, S wx → (execOp a.eval oi).run P wx = .ok (.value v) wx) (hS : S w)
    (h : wpAnyL P md ops Q S n fuel (listed.setIfInBounds i true) (a.put oi.dst v) w) : wpAnyL P md ops Q S n (fuel + 1) listed a w := by
  simp only [Bool.and_eq_true] at hs
  obtain ⟨⟨⟨hsel, hfr⟩, hrd⟩, hlate⟩ := hs
  unfold lateOk at hlate
  simp only [Bool.and_eq_true, List.all_eq_true] at hlate
  refine wpAnyL_first (D := lateB md ops i) hi (Region.noSelect_spec hsel) (fun k h1 h2 => ?_) (fun k hk => ?_) hQ fuel listed a w (fun k hk => ?_) (Region.free_spec hi hfr) (by simpa using hrd) (.inl ⟨hg, hy⟩) hS h
  · have := hlate.1 k (by simpa using h2)
    simp only [Bool.or_eq_true, decide_eq_true_eq, List.contains_iff_mem] at this
    exact this.elim (fun h => absurd h (by omega)) id
  · have := (hlate.2 k hk).1
    split at this
    · rename_i ok hok
      obtain ⟨e, he, hb⟩ := Array.any_eq_true'.1 this
      simp only [Bool.and_eq_true, Bool.or_eq_true, beq_iff_eq] at hb
      exact ⟨ok, hok, e, he, hb.1, hb.2.imp id (fun h => by simpa using h)⟩
    · cases this
  · have := (hlate.2 k hk).2
    simpa using this

/-- Number i alone may come up. -/
theorem wpAnyL_one (i : Nat) {oi : Oper} {fuel : Nat} {listed : Array Bool} {a : Act} {w : World} (hi : ops[i]? = some oi) (hr : Region.ready md ops listed = [i]) (hg : Region.wanted oi (yielded ops a.tmps) = true)
    (h : ∀ K : Act → World → Prop, (∀ a' w', (i < n → S w') ∧ wpAnyL P md ops Q S n fuel (listed.setIfInBounds i true) a' w' → K a' w') → oi.wp P a w K Q) : wpAnyL P md ops Q S n (fuel + 1) listed a w := by
  refine ⟨fun h0 => (by rw [hr] at h0; cases h0), fun j hj => ?_⟩
  rw [hr] at hj
  simp only [List.mem_singleton] at hj
  subst hj
  unfold wpOp
  simp only [hi, hg, if_true]
  exact .inl (h _ (fun _ _ h => h))

theorem wpAnyL_done {listed : Array Bool} {a : Act} {w : World} (hr : Region.ready md ops listed = []) (h : Q .normal a w) : ∀ fuel, wpAnyL P md ops Q S n fuel listed a w
  | 0 => ⟨hr, h⟩
  | _ + 1 => ⟨fun _ => h, by rw [hr]; simp⟩

theorem wp_region_L {id : Nat} {a : Act} {w : World} (S : World → Prop) (n : Nat) (hm : P.follows .mixedOrders = true)
    (h : wpAnyL P .any ops Q S n ops.size (Array.replicate ops.size false) a w.drew) : (Code.region id ops true).wp P Q a w :=
  wp_region_any hm (wpAny_of_L _ _ _ _ h)

end
end Dp
end Go.Proofs.YtdipojfngdceoaaDoor

/- More on regions that draw their order: behind the one operation that writes. It holds of every program. -/
namespace Go.Proofs.YtdipojfngdceoaaDoor
namespace Dp
open Go

section
variable {P : Program} {md : Region.Mode} {ops : Array Oper} {Q : Exit → Act → World → Prop} {S : World → Prop} {n : Nat}

/-- Once all numbers below n are listed, any order will do. -/
theorem wpAnyL_late (fuel : Nat) : ∀ (listed : Array Bool) (a : Act) (w : World), (∀ k, k < n → listed.getD k true = true) → wpAny P md ops Q fuel listed a w → wpAnyL P md ops Q S n fuel listed a w := by
  induction fuel with
  | zero => exact fun _ _ _ _ h => h
  | succ fuel ih =>
    intro listed a w hl h
    refine ⟨h.1, fun i hi => wpOp_mono (fun a' w' h' => ⟨fun hlt => ?_, ih _ a' w' (fun k hk => ?_) h'⟩) (h.2 i hi)⟩
    · have h0 := (mem_ready.1 hi).1
      rw [hl i hlt] at h0
      exact absurd h0 (by decide)
    · by_cases e : i = k
      · subst e
        have h0 := (mem_ready.1 hi).1
        rw [hl i hk] at h0
        exact absurd h0 (by decide)
      · rw [getD_set_ne true e]; exact hl k hk
theorem wpAnyL_rest {fuel : Nat} {listed : Array Bool} {a : Act} {w : World} (hl : ((List.range n).all fun k => listed.getD k true) = true) (h : wpAny P md ops Q fuel listed a w) : wpAnyL P md ops Q S n fuel listed a w :=
  wpAnyL_late fuel listed a w (fun k hk => by simpa using List.all_eq_true.1 hl k (by simpa using hk)) h
/-- A pure number is taken first. -/
theorem wpAny_pure (i : Nat) {oi : Oper} {v : Value} {fuel : Nat} {listed : Array Bool} {a : Act} {w : World} (hi : ops[i]? = some oi)
    (hs : (Region.noSelect ops && Region.free md ops listed i && (Region.ready md ops listed).contains i) = true)
    (hQ : ∀ c a w, Q (.panic c) (a.put oi.dst v) w → Q (.panic c) a w) (hy : Yields P ops oi v a)
    (h : wpAny P md ops Q fuel (listed.setIfInBounds i true) (a.put oi.dst v) w) : wpAny P md ops Q (fuel + 1) listed a w := by
  simp only [Bool.and_eq_true] at hs
  exact wpAny_take hi hs.1.1 hs.1.2 hs.2 hQ hy h

/-- What is left comes one by one. -/
theorem wpAny_tail (k : Nat) {fuel : Nat} {listed : Array Bool} {a : Act} {w : World} (hf : fuel = ops.size - k) (hB : Region.seqB md ops (ops.size - k) k listed = true) (h : wpList P ops Q (ops.toList.drop k) a w) : wpAny P md ops Q fuel listed a w := by
  have hl : (ops.toList.drop k).length = ops.size - k := by simp
  rw [hf, ← hl]
  rw [← hl] at hB
  exact wpAny_of_seq _ k listed a w (fun j => by simp) hB h

end
end Dp
end Go.Proofs.YtdipojfngdceoaaDoor

/- A call by an interface: the method's own function is entered. It holds of every program. -/
namespace Go.Proofs.YtdipojfngdceoaaDoor
namespace Dp
open Go

theorem wp_invoke {P : Program} {w : World} {o : Oper} {a : Act} {K : Act → World → Prop} {Q : Exit → Act → World → Prop} (c : Call) (recv : Operand) (name : String) (ho : o.op = .call c) (hc : c.callee = .invoke recv name)
    (T : TypeId) (x : Value) (hr : a.eval recv = .iface T x) (vals : Array Value) (hv : c.args.map a.eval = vals) (f : FuncId) (fargs : Array Value)
    (hm : ∀ wx, (callMethod (.iface T x) name vals).run P wx = .ok (.enter f fargs) wx)
    (h : Calls P f fargs w fun e w'' => match e with
      | .returned v => K (a.put o.dst v) w''
      | .panicked chain => Q (.panic chain) a w''
      | .outgrown => LetsOut Q) : o.wp P a w K Q := by
  have e1 : (execOp a.eval o).run P w = .ok (.enter f fargs) w := by
    unfold execOp
    simp only [ho, resolve, hc, hr, hv, Sem.run_bind, Sem.run_pure, Result.andThen_ok, invoke]
    have e2 : (#[Value.iface T x] ++ vals)[0]? = some (.iface T x) := by rw [Array.getElem?_append_left (show 0 < 1 by omega)]; rfl
    have e3 : (#[Value.iface T x] ++ vals).extract 1 (#[Value.iface T x] ++ vals).size = vals := by
      apply Array.ext'; simp
    rw [e2, e3]
    exact hm w
  unfold Oper.wp
  rw [e1, Oper.upon_enter]
  refine h.mono ?_
  intro e w'' he
  cases e <;> exact he

theorem wpList_invoke {P : Program} {w : World} {ops : Array Oper} {rest : List Oper} {o : Oper} {a : Act} {Q : Exit → Act → World → Prop} (hgd : o.guard = none) (c : Call) (recv : Operand) (name : String) (ho : o.op = .call c) (hc : c.callee = .invoke recv name)
    (T : TypeId) (x : Value) (hr : a.eval recv = .iface T x) (vals : Array Value) (hv : c.args.map a.eval = vals) (f : FuncId) (fargs : Array Value)
    (hm : ∀ wx, (callMethod (.iface T x) name vals).run P wx = .ok (.enter f fargs) wx)
    (h : Calls P f fargs w fun e w'' => match e with
      | .returned v => wpList P ops Q rest (a.put o.dst v) w''
      | .panicked chain => Q (.panic chain) a w''
      | .outgrown => LetsOut Q) : wpList P ops Q (o :: rest) a w := by
  refine wpList_plain hgd fun K hK => ?_
  refine wp_invoke c recv name ho hc T x hr vals hv f fargs hm (h.mono ?_)
  intro e w'' he
  cases e
  · exact hK _ _ he
  · exact he
  · exact he

/-- A call of a function value. -/
theorem wp_callFn {P : Program} {w : World} {o : Oper} {a : Act} {K : Act → World → Prop} {Q : Exit → Act → World → Prop} (c : Call) (fo : Operand) (ho : o.op = .call c) (hc : c.callee = .value fo)
    (f : FuncId) (hf : a.eval fo = .func (.func f) #[] #[]) (vals : Array Value) (hv : c.args.map a.eval = vals)
    (hm : (callFunc f vals).run P w = .ok (.enter f vals) w)
    (h : Calls P f vals w fun e w'' => match e with
      | .returned v => K (a.put o.dst v) w''
      | .panicked chain => Q (.panic chain) a w''
      | .outgrown => LetsOut Q) : o.wp P a w K Q := by
  have e1 : (execOp a.eval o).run P w = .ok (.enter f vals) w := by
    unfold execOp
    simp only [ho, resolve, hc, hf, hv, Deferred.ofValue, Sem.run_bind, Sem.run_pure, Result.andThen_ok, invoke, Array.empty_append, Array.append_empty]
    exact hm
  unfold Oper.wp
  rw [e1, Oper.upon_enter]
  refine h.mono ?_
  intro e w'' he
  cases e <;> exact he

end Dp
end Go.Proofs.YtdipojfngdceoaaDoor

/- What 'returned' does with a row that is as 'lent' made it: it answers true, turns the row over, and books it. -/
namespace Go.Proofs.YtdipojfngdceoaaDoor
open Go.RowKit Dp

theorem infoBytes : (Tryd.prog.info? 44).map (fun i => (i.zero, i.size, i.bytes)) = some (some (.slice none 0 0), 1, 24) := by kernel_rfl

namespace Dp
/-- 'string(row[:n])' gives the text back. -/
theorem vals_cell {w : World} {b : Nat} {e : TypeId} {l r : List UInt8} (hb : Row w b e (vals (l ++ r))) (j : Nat) (hj : j < l.length) : w.cell? ((⟨b, 0, none⟩ : Addr).add j) = some (.int .u8 (l[j].toNat : Int)) := by
  have h := hb.cell j
  simp only [vals, List.map_append] at h
  rw [List.getElem?_append_left (by simpa using hj)] at h
  rw [add_zero_off, h]; simp [hj]
end Dp

set_option maxHeartbeats 800000 in
theorem returned_any (s : ByteArray) (w : World) (N b : Nat) (v0 v1 v2 v3 v4 v5 : Value) (xs : List Value) (hs : s.size ≤ 16777216) (hk : xs.length ≤ 16777216)
    (hb : Row w b 5 (vals (s.data.toList ++ [252, 253]))) (hN : Row w N 29 [v0, v1, v2, v3, v4, v5]) (hown : Own w 44 v2 xs) :
    Calls Tryd.prog 26 #[.pointer (some ⟨N, 0, none⟩), .slice (some ⟨b, 0, none⟩) (s.size + 2) (s.size + 2), .string s] w fun e w' => e = .returned (.bool true) ∧
      Row w' b 5 (List.replicate (s.size + 2) (.int .u8 251)) ∧ Keeps (fun j => j = b ∨ j = N ∨ v2.ownBlock = some j) w w' ∧
      ∃ v2', Row w' N 29 [v0, v1, v2', v3, v4, v5] ∧ Own w' 44 v2' (xs ++ [.slice (some ⟨b, 0, none⟩) (s.size + 2) (s.size + 2)]) ∧ (v2'.ownBlock = v2.ownBlock ∨ ∀ g, v2'.ownBlock = some g → w.heap.size ≤ g) := by
  have hconv := run_convert_bytes_back (P := Tryd.prog) w 44 9 5 ⟨b, 0, none⟩ (s.size + 2) s.data.toList Tryd.underlying44 Tryd.underlying5 Tryd.underlying9 (vals_cell hb)
  have el : s.data.toList.length = s.size := by simp
  rw [el] at hconv
  have c0 : w.cell? ⟨b, s.size, none⟩ = some (.int .u8 252) := by rw [hb.cell]; simp [vals]
  have c1 : w.cell? ⟨b, s.size + 1, none⟩ = some (.int .u8 253) := by rw [hb.cell]; simp [vals]
  clear el
  go_enter Tryd.func26, Tryd.ntmps26
  go_wp2
  clear hconv c0 c1
  go_loopw [9] (fun i wr => ∃ j : Nat, j ≤ s.size + 2 ∧ i = .int .i64 j ∧ Row wr b 5 (List.replicate j (.int .u8 251) ++ (vals (s.data.toList ++ [252, 253])).drop j) ∧ Keeps (fun q => q = b) w wr) (fun i _ => s.size + 2 - (intOf i).toNat)
  case atStart => exact ⟨0, Nat.zero_le _, rfl, by simpa using hb, Keeps.refl _ _⟩
  case round =>
    obtain ⟨j, hj, rfl, rb, kb⟩ := hrel
    by_cases hlt : j < s.size + 2
    · have hlen : (vals (s.data.toList ++ [252, 253])).length = s.size + 2 := by simp [vals]
      obtain ⟨u, cj⟩ : ∃ u, wr.cell? ⟨b, j, none⟩ = some u := ⟨_, fill_cell rb (by omega)⟩
      have fj := rb.frozen j
      have RB : Hid (Row (wr.setCell ⟨b, j, none⟩ (.int .u8 251)) b 5 (List.replicate (j + 1) (.int .u8 251) ++ (vals (s.data.toList ++ [252, 253])).drop (j + 1))) := by
        have h := rb.set j (.int .u8 251)
        rw [fill_step _ _ _ (by omega)] at h
        exact h
      clear hlen
      go_wp2
      go_roundw
      case rel => exact ⟨j + 1, by omega, by go_num, RB.out, kb.setCell (.inr rfl) _⟩
      case measure => simp [intOf]; omega
    · obtain rfl : j = s.size + 2 := by omega
      rw [List.drop_eq_nil_of_le (by simp [vals]), List.append_nil] at rb
      have hNb : N ≠ b := hN.ne hb (by decide)
      have hob := hown.ne hb (by decide)
      have hoN := hown.ne hN (by decide)
      have hN1 := hN.keep kb hNb
      have hown1 := hown.keep kb hob
      have cN : wr.cell? ⟨N, 2, none⟩ = some v2 := hN1.cellAt 2 (by simp)
      have zw := hN1.lt
      clear hN hown hb hlt
      go_wp2_with (at_builtin; refine wpList_append_Own rfl _ _ 24 rfl 44 (.slice none 0 0) 24 Tryd.underlying24 infoBytes rfl v2 xs rfl (hown1.alloc _) _ 1 1 [.slice (some ⟨b, 0, none⟩) (s.size + 2) (s.size + 2)] rfl rfl (cell_one_new _ _ _) (fun x hx => by simp at hx; subst hx; rfl) (by omega) (by unfold maxLen; omega) (by omega) ?_)
      intro v2' w2 own2 k2 sz2
      have k3 : Keeps (fun k => v2.ownBlock = some k) wr w2 := ((Keeps.refl _ _).alloc _).next k2 (fun _ _ h => h)
      have hN2 := hN1.keep k3 (fun e => hoN N e rfl)
      have cN2 : w2.cell? ⟨N, 2, none⟩ = some v2 := hN2.cellAt 2 (by simp)
      have fN2 := hN2.frozen 2
      have own3 : ∃ ad cap, v2' = .slice ad (xs.length + 1) cap := by simpa using own2.isSlice
      obtain ⟨ad3, cap3, e3⟩ := own3
      have E3 : Hid (v2' = .slice ad3 (xs.length + 1) cap3) := e3
      rw [e3]
      clear e3
      go_wp2
      go_ret
      rw [← E3.out]
      have hb2 := rb.keep k3 (fun e => hob b e rfl)
      refine ⟨rfl, hb2.setOther _ _ (Ne.symm hNb), ?_, v2', hN2.set 2 v2', ?_, ?_⟩
      · refine Keeps.setCell ?_ (.inr (.inr (.inl rfl))) _
        exact (kb.mono (fun k _ e => .inl e)).next k3 (fun k _ e => .inr (.inr e))
      · refine own2.keep ((Keeps.refl (fun k => k = N) w2).setCell (.inr rfl) _) ?_
        intro g hg e
        subst e
        exact own2.ne hN2 (by decide) g hg rfl
      · rcases sz2.out with h | h
        · exact .inl h.1
        · refine .inr fun g hg => ?_
          rw [h.1] at hg
          have := kb.size
          simp at hg
          omega

end Go.Proofs.YtdipojfngdceoaaDoor
