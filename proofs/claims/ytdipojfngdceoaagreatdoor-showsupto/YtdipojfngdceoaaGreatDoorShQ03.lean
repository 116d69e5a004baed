/- Steps on the way: Memo, MemoCells, OwnRow, RegionLast. -/
import Derived.Test.YtdipojfngdceoaaGreatDoorShQ01
import Derived.WalkKit
import Derived.WalkSpells
import Derived.StillTail
import Derived.OrdersHeld
namespace Go.Proofs.YtdipojfngdceoaaGreatDoor
namespace Dp
open Go.RowKit
structure Memo (σ : Type) where
 load : σ → Int → Option (σ × Int × Int)
 store : σ → Int → Int → Option (σ × Int)
 source : σ → Int → Option (σ × List UInt8 × Int)
def putted (s : Cs) (i : Ins) (v : Int) : Cs := { s with pc := wrap (s.pc + 1), regs := s.regs.set i.a.toNat v }
def jumped (s : Cs) (i : Ins) (b : Bool) : Cs := { s with pc := wrap (wrap (s.pc + 1) + one b * i.n) }
def still (s : Cs) (i : Ins) : Cs × Int := ({ (plain s i).1 with steps := s.steps }, (plain s i).2)
def after {α : Type} (o : Option α) (bad : Prop) (good : α → Prop) : Prop := match o with
 | none => bad
 | some r => good r
theorem after_none {α : Type} (bad : Prop) (good : α → Prop) : after none bad good = bad := rfl
theorem after_some {α : Type} (r : α) (bad : Prop) (good : α → Prop) : after (some r) bad good = good r := rfl
section
variable {σ : Type}
def perform (M : Memo σ) (s : Cs) (m : σ) (i : Ins) : Option (Cs × σ × Int) :=
 if i.op = 13 then
  match M.load m (wrap (s.reg i.b + i.n)) with
  | none => none
  | some r => if r.2.2 ≠ 0 then some (s, r.1, r.2.2) else some (putted s i r.2.1, r.1, 0)
 else if i.op = 14 then
  match M.store m (wrap (s.reg i.b + i.n)) (s.reg i.a) with
  | none => none
  | some r => if r.2 ≠ 0 then some (s, r.1, r.2) else some ({ s with pc := wrap (s.pc + 1) }, r.1, 0)
 else if i.op = 19 then
  match M.source m (s.reg i.b) with
  | none => none
  | some r => if r.2.2 ≠ 0 then some (s, r.1, r.2.2) else some (putted s i (told r.2.1 (s.reg i.c)), r.1, 0)
 else some ((still s i).1, m, (still s i).2)
def coreStep (M : Memo σ) (s : Cs) (m : σ) : Option (Cs × σ × Int) :=
 if s.over then some (s, m, 0) else
  match M.load m s.pc with
  | none => none
  | some r => if r.2.2 ≠ 0 then some (s, r.1, r.2.2) else
   match perform M s r.1 (decode r.2.1) with
   | none => none
   | some q => if q.2.2 ≠ 0 then some q else some ({ q.1 with steps := wrap (q.1.steps + 1) }, q.2.1, 0)
structure MemOk (P : Program) (p : Nat) (T : TypeId) (x : Value) (M : Memo σ) (F : World → Nat → Prop) (Inv Inv' : World → σ → Prop) (Bad : World → Prop) (g : List PanicEntry) : Prop where
 keep : ∀ {w w' : World} {m : σ}, Inv w m → Keeps (fun k => k = p) w w' → Inv w' m ∧ ∀ k, F w' k → F w k
 keep' : ∀ {w w' : World} {m : σ}, Inv' w m → Keeps (fun k => k = p) w w' → Inv' w' m
 le : ∀ {w : World} {m : σ}, Inv w m → Inv' w m
 foot : ∀ {w : World} {m : σ} {k : Nat}, Inv w m → F w k → k < w.heap.size ∧ k ≠ p
 word : ∀ {w : World} {m : σ} {n : Int} {r : σ × Int × Int}, Inv w m → isWord n → M.load m n = some r → isWord r.2.1
 load : ∀ (w : World) (m : σ) (n : Int), isWord n → Inv w m → ∃ f args, (∀ wx, (callMethod (.iface T x) "Load" #[.int .u32 n]).run P wx = .ok (.enter f args) wx) ∧
  Calls P f args w fun e w' => after (M.load m n) (e = .panicked g ∧ Bad w') fun r => e = .returned (.tuple #[.int .u32 r.2.1, .int .i64 r.2.2]) ∧ isWord r.2.1 ∧ (0 ≤ r.2.2 ∧ r.2.2 < 8) ∧ Inv' w' r.1 ∧ Keeps (F w) w w'
 store : ∀ (w : World) (m : σ) (n v : Int), isWord n → isWord v → Inv w m → ∃ f args, (∀ wx, (callMethod (.iface T x) "Store" #[.int .u32 n, .int .u32 v]).run P wx = .ok (.enter f args) wx) ∧
  Calls P f args w fun e w' => after (M.store m n v) (e = .panicked g ∧ Bad w') fun r => e = .returned (.int .i64 r.2) ∧ (0 ≤ r.2 ∧ r.2 < 8) ∧ Inv' w' r.1 ∧ Keeps (F w) w w'
 source : ∀ (w : World) (m : σ) (n : Int), isWord n → Inv w m → ∃ f args, (∀ wx, (callMethod (.iface T x) "Source" #[.int .u32 n]).run P wx = .ok (.enter f args) wx) ∧
  Calls P f args w fun e w' => after (M.source m n) (e = .panicked g ∧ Bad w') fun r => (∃ v, e = .returned (.tuple #[v, .int .i64 r.2.2]) ∧ Bytes w' v r.2.1) ∧ (0 ≤ r.2.2 ∧ r.2.2 < 8) ∧ Inv' w' r.1 ∧ Keeps (F w) w w'
end
theorem still_of (s : Cs) (i : Ins) (hp : isPlain i.op = true) (hd : ¬ (i.op = 10 ∧ s.reg i.c = 0)) : still s i = ({ pc := nextOf s i, steps := s.steps, code := if i.op = 0 then s.reg i.a else s.code, over := if i.op = 0 then true else s.over, regs := s.regs.set i.a.toNat (aluOf s i) }, 0) := by
 unfold still plain; rw [hp]; simp [hd]
theorem set_self (s : Cs) (h : s.regs.length = 8) (a : Int) (ha : 0 ≤ a ∧ a < 8) : s.regs.set a.toNat (s.reg a) = s.regs := by
 have hlt : a.toNat < s.regs.length := by omega
 unfold Cs.reg
 rw [List.getD_eq_getElem?_getD, List.getElem?_eq_getElem hlt]
 simp
theorem still_put (s : Cs) (i : Ins) (hp : isPlain i.op = true) (hd : ¬ (i.op = 10 ∧ s.reg i.c = 0)) (h0 : i.op ≠ 0) (h15 : i.op < 15) : still s i = (putted s i (aluOf s i), 0) := by
 rw [still_of s i hp hd]
 unfold putted nextOf
 have h1 : i.op ≠ 15 := by omega
 have h2 : i.op ≠ 16 := by omega
 have h3 : i.op ≠ 17 := by omega
 have h4 : i.op ≠ 18 := by omega
 simp [h0, h1, h2, h3, h4]
end Dp
end Go.Proofs.YtdipojfngdceoaaGreatDoor

namespace Go.Proofs.YtdipojfngdceoaaGreatDoor
namespace Dp
def cellsMemo : Memo (List Int × List (List UInt8)) where
 load m n := some (m, if n ≥ 256 then (0, 3) else (m.1.getD n.toNat 0, 0))
 store m n v := some (if n ≥ 256 then (m, 3) else ((m.1.set n.toNat v, m.2), 0))
 source m name := some (m, match findSrc m.2 name with | none => ([], 5) | some l => (l, 0))
theorem plain_counts (s : Cs) (i : Ins) (h : (plain s i).2 = 0) : (plain s i).1.steps = wrap (s.steps + 1) := by
 unfold plain at h ⊢
 split
 ·rename_i h1; rw [if_pos h1] at h; simp at h
 ·rename_i h1
  rw [if_neg h1] at h
  split
  ·rename_i h2; rw [if_pos h2] at h; simp at h
  ·rfl
theorem plain_stays (s : Cs) (i : Ins) (h : (plain s i).2 ≠ 0) : (plain s i).1 = s := by
 unfold plain at h ⊢
 split
 ·rfl
 ·rename_i h1
  rw [if_neg h1] at h
  split
  ·rfl
  ·rename_i h2; rw [if_neg h2] at h; simp at h
theorem still_step (s : Cs) (i : Ins) : (if (still s i).2 ≠ 0 then (still s i) else ({ (still s i).1 with steps := wrap ((still s i).1.steps + 1) }, 0)) = plain s i := by
 by_cases h : (plain s i).2 = 0
 ·have hs := plain_counts s i h
  have e : (still s i).2 = 0 := h
  rw [if_neg (by simpa using e)]
  unfold still
  simp only
  rw [← hs]
  exact Prod.ext rfl h.symm
 ·have e : (still s i).2 ≠ 0 := h
  rw [if_pos e]
  unfold still
  have hs := plain_stays s i h
  exact Prod.ext (by simp only [hs]) rfl
theorem coreStep_cells (m : Mach) : coreStep cellsMemo m.s (m.cells, m.srcs) = some (m.step.1.s, (m.step.1.cells, m.step.1.srcs), m.step.2) := by
 unfold coreStep Mach.step
 by_cases hov : m.s.over = true
 ·simp [hov]
 simp only [hov]
 by_cases hpc : m.s.pc ≥ 256
 ·simp [cellsMemo, hpc]
 have e1 : cellsMemo.load (m.cells, m.srcs) m.s.pc = some ((m.cells, m.srcs), m.cell m.s.pc, 0) := by simp [cellsMemo, hpc, Mach.cell]
 rw [e1]
 simp only [hpc, if_false, ne_eq, not_true_eq_false, Bool.false_eq_true]
 unfold perform
 generalize decode (m.cell m.s.pc) = i
 by_cases h13 : i.op = 13
 ·simp only [h13, true_or, if_true]
  by_cases hn : wrap (m.s.reg i.b + i.n) ≥ 256
  ·simp [cellsMemo, hn]
  ·simp [cellsMemo, hn, moved, putted, Mach.cell]
 by_cases h14 : i.op = 14
 ·simp only [h14, or_true, if_true]
  by_cases hn : wrap (m.s.reg i.b + i.n) ≥ 256
  ·simp [cellsMemo, hn]
  ·simp [cellsMemo, hn, moved]
 by_cases h19 : i.op = 19
 ·simp only [h19]
  cases hf : findSrc m.srcs (m.s.reg i.b) with
  | none => simp [cellsMemo, hf]
  | some l => simp [cellsMemo, hf, moved, putted]
 simp only [h13, h14, h19, or_self, if_false]
 have hst := still_step m.s (i)
 generalize still m.s (i) = q at *
 generalize plain m.s (i) = r at *
 by_cases hq : q.2 = 0
 ·rw [if_neg (by simpa using hq)] at hst
  rw [← hst]; simp [hq]
 ·rw [if_pos hq] at hst
  rw [← hst]; simp [hq]
end Dp
end Go.Proofs.YtdipojfngdceoaaGreatDoor

namespace Go.Proofs.YtdipojfngdceoaaGreatDoor
namespace Dp
open Go.RowKit
def Own (w : World) (e : TypeId) (v : Value) (xs : List Value) : Prop :=
 (v = .slice none 0 0 ∧ xs = []) ∨
 ∃ g tail, v = .slice (some ⟨g, 0, none⟩) xs.length (xs.length + tail.length) ∧ Row w g e (xs ++ tail) ∧ xs.length + tail.length ≤ maxLen
theorem Own.nil (w : World) (e : TypeId) : Own w e (.slice none 0 0) [] := .inl ⟨rfl, rfl⟩
theorem Own.lt {w : World} {e : TypeId} {v : Value} {xs : List Value} (h : Own w e v xs) : ∀ g, v.ownBlock = some g → g < w.heap.size := by
 rintro g hg
 rcases h with ⟨rfl, _⟩ | ⟨g', tail, rfl, hr, _⟩
 ·simp [Value.ownBlock] at hg
 ·simp [Value.ownBlock] at hg; subst hg; exact hr.lt
theorem Own.keep {S : Nat → Prop} {w w' : World} {e : TypeId} {v : Value} {xs : List Value} (h : Own w e v xs) (k : Keeps S w w') (hs : ∀ g, v.ownBlock = some g → ¬ S g) : Own w' e v xs := by
 rcases h with h | ⟨g, tail, rfl, hr, hm⟩
 ·exact .inl h
 ·exact .inr ⟨g, tail, rfl, hr.keep k (hs g rfl), hm⟩
theorem Own.ne {w : World} {e f : TypeId} {v : Value} {xs cs : List Value} {b : Nat} (h : Own w e v xs) (hb : Row w b f cs) (hef : f ≠ e) : ∀ g, v.ownBlock = some g → g ≠ b := by
 rintro g hg rfl
 rcases h with ⟨rfl, _⟩ | ⟨g', tail, rfl, hr, _⟩
 ·simp [Value.ownBlock] at hg
 ·simp [Value.ownBlock] at hg; subst hg; exact hb.ne hr hef rfl
theorem Own.alloc {w : World} {e : TypeId} {v : Value} {xs : List Value} (h : Own w e v xs) (o : Obj) : Own (w.alloc o) e v xs := by
 rcases h with h | ⟨g, tail, rfl, hr, hm⟩
 ·exact .inl h
 ·exact .inr ⟨g, tail, rfl, hr.allocOld o, hm⟩
theorem Own.drew {w : World} {e : TypeId} {v : Value} {xs : List Value} (h : Own w e v xs) : Own w.drew e v xs := h
theorem Own.isSlice {w : World} {e : TypeId} {v : Value} {xs : List Value} (h : Own w e v xs) : ∃ ad cap, v = .slice ad xs.length cap := by
 rcases h with ⟨rfl, rfl⟩ | ⟨g, tail, rfl, _, _⟩
 ·exact ⟨none, 0, rfl⟩
 ·exact ⟨_, _, rfl⟩
theorem zeroCells_length (z : Value) (hz : z.cells.size = 1) (n : Nat) : (Builtin.zeroCells z.cells n).toList.length = n := by simp [size_zeroCells, hz]
theorem run_append_Own {P : Program} (w : World) (t ty e : TypeId) (z : Value) (bytes : Nat) (ht : P.underlying t = some (.slice e)) (hinfo : (P.info? e).map (fun i => (i.zero, i.size, i.bytes)) = some (some z, 1, bytes)) (hz1 : z.cells.size = 1)
  (v : Value) (xs : List Value) (hown : Own w e v xs) (a : Addr) (c : Nat) (news : List Value) (hnews : ∀ j u, news[j]? = some u → w.cell? (a.add j) = some u) (h1 : ∀ u ∈ news, u.oneCell' = true) (hpos : 0 < news.length)
  (h63 : xs.length + news.length ≤ maxLen) (hbytes : (xs.length + news.length) * bytes ≤ 140737488355328) :
  ∃ v' w', (Builtin.append_ #[t, t] ty #[v, .slice (some a) news.length c]).run P w = .ok v' w' ∧ Own w' e v' (xs ++ news) ∧ Keeps (fun k => v.ownBlock = some k) w w' ∧
   (v'.ownBlock = v.ownBlock ∧ w'.heap.size = w.heap.size ∨ v'.ownBlock = some w.heap.size ∧ w'.heap.size = w.heap.size + 1) := by
 obtain ⟨i, hi, hz, hsize, hby⟩ := info_parts hinfo
 subst hby
 have hsmall : xs.length + news.length ≤ 9223372036854775807 := by simp only [maxLen] at h63; omega
 have hl : news.length = news.length * i.size := by rw [hsize, Nat.mul_one]
 have grown : ∀ old : Nat, Own (w.drew.alloc (.cells (xs.toArray ++ news.toArray ++ Builtin.zeroCells z.cells (grownCap w (xs.length + news.length) old e - (xs.length + news.length))) e)) e
    (.slice (some ⟨w.heap.size, 0, none⟩) (xs.length + news.length) (grownCap w (xs.length + news.length) old e)) (xs ++ news) := by
  intro old
  have hge := grownCap_ge w (xs.length + news.length) old e
  have hcm : grownCap w (xs.length + news.length) old e ≤ maxLen := grownCap_le_maxLen w _ old e h63
  refine .inr ⟨w.heap.size, (Builtin.zeroCells z.cells (grownCap w (xs.length + news.length) old e - (xs.length + news.length))).toList, ?_, ?_, ?_⟩
  ·rw [zeroCells_length z hz1, List.length_append]; congr 1; omega
  ·have := heap_alloc_new w.drew (.cells (xs.toArray ++ news.toArray ++ Builtin.zeroCells z.cells (grownCap w (xs.length + news.length) old e - (xs.length + news.length))) e)
   unfold Row; rw [show w.heap.size = w.drew.heap.size from rfl, this]; simp
  ·rw [zeroCells_length z hz1, List.length_append]; omega
 rcases hown with ⟨rfl, rfl⟩ | ⟨g, tail, rfl, hr, hm⟩
 ·have hrun := run_append_nil (P := P) w t ty e i z ht hi hz a news.length c news hl hnews hpos (by simp only [List.length_nil, Nat.zero_add] at hsmall; omega) (by simp only [List.length_nil, Nat.zero_add] at hbytes; omega)
  have hgr := grown 0
  simp only [List.length_nil, Nat.zero_add, List.nil_append, Array.empty_append] at hgr ⊢
  exact ⟨_, _, hrun, hgr, (Keeps.refl _ _).drew.alloc _, .inr ⟨rfl, by simp⟩⟩
 ·by_cases hroom : xs.length + news.length ≤ xs.length + tail.length
  ·have hrun := run_append_room (P := P) w t ty e i ht hi g xs.length (xs.length + tail.length) (xs ++ tail).toArray hr a news.length c news hl hnews h1 hroom (by rw [hsize]; simp; omega)
   refine ⟨_, _, hrun, .inr ⟨g, tail.drop news.length, ?_, ?_, ?_⟩, (Keeps.refl (fun k => Value.ownBlock (.slice (some ⟨g, 0, none⟩) xs.length (xs.length + tail.length)) = some k) w).setRow (.inr rfl) _, .inl ⟨rfl, by simp⟩⟩
   ·rw [List.length_append, List.length_drop]; congr 1; omega
   ·have h := Row.setRow hr (List.take (xs.length * i.size) (xs ++ tail).toArray.toList ++ news ++ List.drop (xs.length * i.size + news.length) (xs ++ tail).toArray.toList)
    have e1 : List.take (xs.length * i.size) (xs ++ tail).toArray.toList ++ news ++ List.drop (xs.length * i.size + news.length) (xs ++ tail).toArray.toList = xs ++ news ++ tail.drop news.length := by
     rw [hsize, Nat.mul_one]; simp
    rw [e1] at h ⊢; exact h
   ·rw [List.length_append, List.length_drop]; omega
  ·have hrun := run_append_grow (P := P) w t ty e i z ht hi hz ⟨g, 0, none⟩ xs.length (xs.length + tail.length) xs (by rw [hsize, Nat.mul_one]) (by
     intro j u hj
     have e1 := add_zero_off g j
     have hlt : j < xs.length := (List.getElem?_eq_some_iff.1 hj).1
     rw [e1, hr.cell, List.getElem?_append_left hlt]; exact hj) a news.length c news hl hnews (by omega) (by omega) (growslice_fits (by omega) hbytes)
   exact ⟨_, _, hrun, grown _, (Keeps.refl _ _).drew.alloc _, .inr ⟨rfl, by simp⟩⟩
theorem wpList_append_Own {P : Program} {w : World} {ops : Array Oper} {rest : List Oper} {o : Oper} {a : Act} {Q : Exit → Act → World → Prop} (hgd : o.guard = none) (s x : Operand) (t : TypeId)
  (ho : o.op = .call { callee := .builtin .append, args := #[s, x], argTypes := #[t, t] }) (e : TypeId) (z : Value) (bytes : Nat) (ht : P.underlying t = some (.slice e)) (hinfo : (P.info? e).map (fun i => (i.zero, i.size, i.bytes)) = some (some z, 1, bytes)) (hz1 : z.cells.size = 1)
  (v : Value) (xs : List Value) (hs : a.eval s = v) (hown : Own w e v xs) (ad : Addr) (m c : Nat) (news : List Value) (hx : a.eval x = .slice (some ad) m c) (hl : news.length = m) (hnews : ∀ j u, news[j]? = some u → w.cell? (ad.add j) = some u) (h1 : ∀ u ∈ news, u.oneCell' = true) (hpos : 0 < m)
  (h63 : xs.length + m ≤ maxLen) (hbytes : (xs.length + m) * bytes ≤ 140737488355328)
  (h : ∀ v' w', Own w' e v' (xs ++ news) → Keeps (fun k => v.ownBlock = some k) w w' → Hid (v'.ownBlock = v.ownBlock ∧ w'.heap.size = w.heap.size ∨ v'.ownBlock = some w.heap.size ∧ w'.heap.size = w.heap.size + 1) → wpList P ops Q rest (a.put o.dst v') w') :
  wpList P ops Q (o :: rest) a w := by
 refine wpList_plain hgd fun K hK => ?_
 subst hl
 obtain ⟨v', w', hr, h2, h3, h4⟩ := run_append_Own (P := P) w t o.type e z bytes ht hinfo hz1 v xs hown ad c news hnews h1 hpos h63 hbytes
 unfold Oper.wp execOp
 simp only [ho, resolve, invoke, builtin, Sem.run_bind, Sem.run_pure, Result.andThen_ok, List.map_toArray, List.map_cons, List.map_nil, hs, hx, hr]
 exact hK _ _ (h v' w' h2 h3 h4)
theorem wp_append_Own {P : Program} {w : World} {o : Oper} {a : Act} {K : Act → World → Prop} {Q : Exit → Act → World → Prop} (s x : Operand) (t : TypeId)
  (ho : o.op = .call { callee := .builtin .append, args := #[s, x], argTypes := #[t, t] }) (e : TypeId) (z : Value) (bytes : Nat) (ht : P.underlying t = some (.slice e)) (hinfo : (P.info? e).map (fun i => (i.zero, i.size, i.bytes)) = some (some z, 1, bytes)) (hz1 : z.cells.size = 1)
  (v : Value) (xs : List Value) (hs : a.eval s = v) (hown : Own w e v xs) (ad : Addr) (m c : Nat) (news : List Value) (hx : a.eval x = .slice (some ad) m c) (hl : news.length = m) (hnews : ∀ j u, news[j]? = some u → w.cell? (ad.add j) = some u) (h1 : ∀ u ∈ news, u.oneCell' = true) (hpos : 0 < m)
  (h63 : xs.length + m ≤ maxLen) (hbytes : (xs.length + m) * bytes ≤ 140737488355328)
  (h : ∀ v' w', Own w' e v' (xs ++ news) → Keeps (fun k => v.ownBlock = some k) w w' → Hid (v'.ownBlock = v.ownBlock ∧ w'.heap.size = w.heap.size ∨ v'.ownBlock = some w.heap.size ∧ w'.heap.size = w.heap.size + 1) → K (a.put o.dst v') w') :
  o.wp P a w K Q := by
 subst hl
 obtain ⟨v', w', hr, h2, h3, h4⟩ := run_append_Own (P := P) w t o.type e z bytes ht hinfo hz1 v xs hown ad c news hnews h1 hpos h63 hbytes
 unfold Oper.wp execOp
 simp only [ho, resolve, invoke, builtin, Sem.run_bind, Sem.run_pure, Result.andThen_ok, List.map_toArray, List.map_cons, List.map_nil, hs, hx, hr]
 exact h v' w' h2 h3 h4
end Dp
end Go.Proofs.YtdipojfngdceoaaGreatDoor

namespace Go.Proofs.YtdipojfngdceoaaGreatDoor
namespace Dp
open Go
section
variable {P : Program} {md : Region.Mode} {ops : Array Oper} {Q : Exit → Act → World → Prop} {S : World → Prop} {n : Nat}
def wpAnyK (P : Program) (md : Region.Mode) (ops : Array Oper) (Q : Exit → Act → World → Prop) (S : World → Prop) (n : Nat) : Nat → Array Bool → Act → World → Prop
 | 0, listed, a, w => Region.ready md ops listed = [] ∧ Q .normal a w
 | fuel + 1, listed, a, w =>
  (Region.ready md ops listed = [] → Q .normal a w) ∧
  ∀ i ∈ Region.ready md ops listed, wpOp P ops Q i (fun a' w' => (i ≠ n → S w') ∧ wpAnyK P md ops Q S n fuel (listed.setIfInBounds i true) a' w') a w
theorem wpAny_of_K : ∀ (fuel : Nat) (listed : Array Bool) (a : Act) (w : World), wpAnyK P md ops Q S n fuel listed a w → wpAny P md ops Q fuel listed a w
 | 0, _, _, _, h => h
 | fuel + 1, _, _, _, h => ⟨h.1, fun i hi => wpOp_mono (fun a' w' h' => wpAny_of_K fuel _ a' w' h'.2) (h.2 i hi)⟩
theorem wpAnyK_first {i : Nat} {oi : Oper} {v : Value} (hi : ops[i]? = some oi) (hsel : ∀ (j : Nat) (o : Oper) cs b, ops[j]? = some o → o.op ≠ .select cs b) (hin : i ≠ n) (hwait : Region.waitsFor md ops n i = true)
  (hQ : ∀ c a w, Q (.panic c) (a.put oi.dst v) w → Q (.panic c) a w) :
  ∀ (fuel : Nat) (listed : Array Bool) (a : Act) (w : World),
   (∀ j oj, ops[j]? = some oj → j ≠ i → listed.getD j true = false → (∀ e ∈ oj.after, Region.binds md e = true → e.on ≠ i) → oi.apart ops oj = true) →
   i ∈ Region.ready md ops listed → YieldsIf P ops S oi v a → S w →
   wpAnyK P md ops Q S n fuel (listed.setIfInBounds i true) (a.put oi.dst v) w → wpAnyK P md ops Q S n (fuel + 1) listed a w := by
 intro fuel
 induction fuel with
 | zero =>
  intro listed a w _ hr hy hS H
  refine ⟨fun h => (by rw [h] at hr; cases hr), fun j hj => ?_⟩
  by_cases hji : j = i
  ·subst hji; exact hy.wpOp hi hS ⟨fun _ => hS, H⟩
  ·have := ready_mono hj hji
   rw [H.1] at this
   cases this
 | succ fuel ih =>
  intro listed a w hfree hr hy hS H
  refine ⟨fun h => (by rw [h] at hr; cases hr), fun j hj => ?_⟩
  by_cases hji : j = i
  ·subst hji; exact hy.wpOp hi hS ⟨fun _ => hS, H⟩
  ·have h1 := H.2 j (ready_mono hj hji)
   obtain ⟨hjun, oj, hoj, hall⟩ := mem_ready.1 hj
   have hnot : ∀ e ∈ oj.after, Region.binds md e = true → e.on ≠ i := fun e he hb heq => by
    have h1 := hall e he hb
    have h0 := (mem_ready.1 hr).1
    rw [heq] at h1
    rcases Nat.lt_or_ge i listed.size with h' | h'
    ·simp [h'] at h0 h1; rw [h0] at h1; cases h1
    ·simp [Array.getElem?_eq_none h'] at h1
   have hjn : j ≠ n := by
    rintro rfl
    obtain ⟨oj', hoj', e, he, hb, hone⟩ := Region.waitsFor_spec hwait
    have : oj' = oj := Option.some.inj (hoj'.symm.trans hoj)
    subst this
    exact hnot e he hb hone
   have h2 := wpOp_putIf hoj (hfree j oj hoj hji hjun hnot) (fun cs b => hsel i oi cs b hi) (fun cs b => hsel j oj cs b hoj) hQ hy h1
   have hfree' : ∀ k ok, ops[k]? = some ok → k ≠ i → (listed.setIfInBounds j true).getD k true = false →
     (∀ e ∈ ok.after, Region.binds md e = true → e.on ≠ i) → oi.apart ops ok = true := fun k ok hk hki hun hno => by
    refine hfree k ok hk hki ?_ hno
    by_cases hjk : j = k
    ·subst hjk; exact hjun
    ·rw [getD_set_ne true hjk] at hun; exact hun
   refine wpOp_mono (fun a' w' h3 => ⟨fun _ => h3.2.1 hjn, ih (listed.setIfInBounds j true) a' w' hfree' (ready_mono hr (Ne.symm hji)) h3.1 (h3.2.1 hjn) ?_⟩) h2
   rw [Array.setIfInBounds_comm _ _ hji]
   exact h3.2.2
theorem wpAnyK_take (i : Nat) {oi : Oper} {v : Value} {fuel : Nat} {listed : Array Bool} {a : Act} {w : World} (hi : ops[i]? = some oi)
  (hs : (Region.noSelect ops && Region.free md ops listed i && (Region.ready md ops listed).contains i && Region.waitsFor md ops n i && i != n) = true)
  (hQ : ∀ c a w, Q (.panic c) (a.put oi.dst v) w → Q (.panic c) a w) (hg : Region.wanted oi (yielded ops a.tmps) = true) (hy : ∀ wx, S wx → (execOp a.eval oi).run P wx = .ok (.value v) wx) (hS : S w)
  (h : wpAnyK P md ops Q S n fuel (listed.setIfInBounds i true) (a.put oi.dst v) w) : wpAnyK P md ops Q S n (fuel + 1) listed a w := by
 simp only [Bool.and_eq_true, bne_iff_ne] at hs
 exact wpAnyK_first hi (Region.noSelect_spec hs.1.1.1.1) hs.2 hs.1.2 hQ fuel listed a w (Region.free_spec hi hs.1.1.1.2) (by simpa using hs.1.1.2) (.inl ⟨hg, hy⟩) hS h
theorem wpAnyK_one (i : Nat) {oi : Oper} {fuel : Nat} {listed : Array Bool} {a : Act} {w : World} (hi : ops[i]? = some oi) (hr : Region.ready md ops listed = [i]) (hg : Region.wanted oi (yielded ops a.tmps) = true)
  (h : ∀ K : Act → World → Prop, (∀ a' w', (i ≠ n → S w') ∧ wpAnyK P md ops Q S n fuel (listed.setIfInBounds i true) a' w' → K a' w') → oi.wp P a w K Q) : wpAnyK P md ops Q S n (fuel + 1) listed a w := by
 refine ⟨fun h0 => (by rw [hr] at h0; cases h0), fun j hj => ?_⟩
 rw [hr] at hj
 simp only [List.mem_singleton] at hj
 subst hj
 unfold wpOp
 simp only [hi, hg, if_true]
 exact .inl (h _ (fun _ _ h => h))
theorem wpAnyK_two (i j : Nat) {oi oj : Oper} {fuel : Nat} {listed : Array Bool} {a : Act} {w : World} (hi : ops[i]? = some oi) (hj : ops[j]? = some oj) (hr : Region.ready md ops listed = [i, j]) (hgi : Region.wanted oi (yielded ops a.tmps) = true) (hgj : Region.wanted oj (yielded ops a.tmps) = true)
  (h1 : ∀ K : Act → World → Prop, (∀ a' w', (i ≠ n → S w') ∧ wpAnyK P md ops Q S n fuel (listed.setIfInBounds i true) a' w' → K a' w') → oi.wp P a w K Q)
  (h2 : ∀ K : Act → World → Prop, (∀ a' w', (j ≠ n → S w') ∧ wpAnyK P md ops Q S n fuel (listed.setIfInBounds j true) a' w' → K a' w') → oj.wp P a w K Q) : wpAnyK P md ops Q S n (fuel + 1) listed a w := by
 refine ⟨fun h0 => (by rw [hr] at h0; cases h0), fun k hk => ?_⟩
 rw [hr] at hk
 simp only [List.mem_cons, List.not_mem_nil, or_false] at hk
 rcases hk with rfl | rfl
 ·unfold wpOp
  simp only [hi, hgi, if_true]
  exact .inl (h1 _ (fun _ _ h => h))
 ·unfold wpOp
  simp only [hj, hgj, if_true]
  exact .inl (h2 _ (fun _ _ h => h))
theorem wpAnyK_done {listed : Array Bool} {a : Act} {w : World} (hr : Region.ready md ops listed = []) (h : Q .normal a w) : ∀ fuel, wpAnyK P md ops Q S n fuel listed a w
 | 0 => ⟨hr, h⟩
 | _ + 1 => ⟨fun _ => h, by rw [hr]; simp⟩
theorem wp_region_K {id : Nat} {a : Act} {w : World} (S : World → Prop) (n : Nat) (hm : P.follows .mixedOrders = true)
  (h : wpAnyK P .any ops Q S n ops.size (Array.replicate ops.size false) a w.drew) : (Code.region id ops true).wp P Q a w :=
 wp_region_any hm (wpAny_of_K _ _ _ _ h)
end
end Dp
end Go.Proofs.YtdipojfngdceoaaGreatDoor
