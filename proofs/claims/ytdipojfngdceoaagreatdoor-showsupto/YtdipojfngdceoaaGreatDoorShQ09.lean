/- Steps on the way: PureRun, PureDig, PureNew, IndexAgg, RegionLate, RegionLate2, Takes0, Takes1, Invoke, MemoStill, MakeCap, Returned, BuildOne. -/
import Derived.Test.YtdipojfngdceoaaGreatDoorShQ01
import Derived.Test.YtdipojfngdceoaaGreatDoorShQ03
import Derived.Test.YtdipojfngdceoaaGreatDoorShQ07
import Derived.Test.YtdipojfngdceoaaGreatDoorShQ08
import Derived.Test.YtdipojfngdceoaaGreatDoorProg
import Derived.WalkKit
import Derived.WalkSpells
import Derived.WalkLawsBesides
import Derived.StillTail
import Derived.OrdersHeld
import Derived.Test.YtdipojfngdceoaaGreatDoorRows
namespace Go.Proofs.YtdipojfngdceoaaGreatDoor
open Go.RowKit
namespace Dp
def Mach.after (m : Mach) : Nat → Mach
 | 0 => m
 | k + 1 => ((Mach.after m k).step).1
theorem Mach.run_reach (m : Mach) : ∀ (k : Nat) (m0 : Mach), (∀ j, j < k → ((Mach.after m0 j).s.over = false ∧ (Mach.after m0 j).step.2 = 0)) → Mach.after m0 k = m → ∀ n, Mach.run (k + n) m0 = ((Mach.run n m).1, (Mach.run n m).2.1 + k, (Mach.run n m).2.2) := by
 intro k
 induction k with
 | zero => intro m0 _ h n; subst h; simp [Mach.after]
 | succ k ih =>
  intro m0 hno h n
  have h0 := hno 0 (by omega)
  have hshift : ∀ j, Mach.after m0.step.1 j = Mach.after m0 (j + 1) := by
   intro j
   induction j with
   | zero => rfl
   | succ j ihj => show ((Mach.after m0.step.1 j).step).1 = _; rw [ihj]; rfl
  have := ih m0.step.1 (fun j hj => by rw [hshift]; exact hno (j + 1) (by omega)) (by rw [hshift]; exact h) n
  rw [show k + 1 + n = (k + n) + 1 by omega]
  show (if m0.s.over then (m0, 0, 0) else if m0.step.2 ≠ 0 then (m0, 0, m0.step.2) else ((Mach.run (k + n) m0.step.1).1, (Mach.run (k + n) m0.step.1).2.1 + 1, (Mach.run (k + n) m0.step.1).2.2)) = _
  have h00 : m0.s.over = false := h0.1
  have h01 : m0.step.2 = 0 := h0.2
  rw [h00, h01, this]
  simp
  omega
theorem step_same (m : Mach) (h : m.step.2 ≠ 0) : m.step.1 = m := by
 unfold Mach.step at h ⊢
 split
 ·rfl
 split
 ·rfl
 rename_i h1 h2
 rw [if_neg h1, if_neg h2] at h
 simp only at h ⊢
 split
 ·rename_i h3
  rw [if_pos h3] at h
  split
  ·rfl
  ·rename_i h4
   rw [if_neg h4] at h
   split at h <;> exact absurd rfl h
 ·rename_i h3
  rw [if_neg h3] at h
  split
  ·rename_i h4
   rw [if_pos h4] at h
   cases hf : findSrc m.srcs (m.s.reg (decode (m.cell m.s.pc)).b) with
   | none => rfl
   | some l => rw [hf] at h; exact absurd rfl h
  ·rename_i h4
   rw [if_neg h4] at h
   have := plain_same m.s _ h
   rw [this]
end Dp
namespace Dp
theorem Row.intAt {w : World} {g : Nat} {e : TypeId} {l : List Int} {tail : List Value} (h : Row w g e (regCells l ++ tail)) (j : Nat) (hj : j < l.length) : w.cell? ⟨g, j, none⟩ = some (.int .i64 (l.getD j 0)) := by
 rw [h.cell, List.getElem?_append_left (by simpa [regCells] using hj)]
 simp [regCells, hj, List.getD_eq_getElem?_getD]
theorem digest_zero (cells : List Int) (at_ : Nat) : digest cells at_ 0 = sum (0 :: four (cells.getD at_ 0)) := rfl
theorem digest_succ (cells : List Int) (at_ d : Nat) : digest cells at_ (d + 1) = sum (1 :: (two (digest cells at_ d) ++ two (digest cells (at_ + 2 ^ d) d))) := rfl
theorem root_bd (cells : List Int) : 0 ≤ root cells ∧ root cells < 65521 := digest_bd cells 0 8
end Dp
theorem infoInt : (Tryz.prog.info? 3).map (fun i => (i.zero, i.size, i.bytes)) = some (some (.int .i64 0), 1, 8) := by kernel_rfl
theorem infoStr : (Tryz.prog.info? 9).map (fun i => (i.zero, i.size, i.bytes)) = some (some (.string ⟨#[]⟩), 1, 16) := by kernel_rfl
namespace Dp
def Ints (w : World) (v : Value) (l : List Int) : Prop :=
 ∃ b o ad cap, v = .slice ad l.length cap ∧ l.length ≤ 1048576 ∧ (l ≠ [] → ad = some ⟨b, o, none⟩ ∧ b < w.heap.size) ∧ ∀ i (h : i < l.length), w.cell? ⟨b, o + i, none⟩ = some (.int .i64 l[i])
def Texts (w : World) (v : Value) (l : List (List UInt8)) : Prop :=
 ∃ b o ad cap, v = .slice ad l.length cap ∧ l.length ≤ 1048576 ∧ (l ≠ [] → ad = some ⟨b, o, none⟩ ∧ b < w.heap.size) ∧ ∀ i (h : i < l.length), l[i].length ≤ 1048576 ∧ w.cell? ⟨b, o + i, none⟩ = some (.string (str l[i]))
def zeroCs : Cs := ⟨0, 0, 0, false, [0, 0, 0, 0, 0, 0, 0, 0]⟩
def newOk (words : List Int) (srcs : List (List UInt8)) : Bool := decide (words.length ≤ 256) && decide (srcs.length ≤ 8) && words.all (fun x => decide (0 ≤ x) && decide (x < 4294967296)) && srcs.all (fun l => decide (l.length ≤ 200))
def newMach (words : List Int) (srcs : List (List UInt8)) : Mach := ⟨zeroCs, words ++ List.replicate (256 - words.length) 0, srcs⟩
def firstWords (words : List Int) (k : Nat) : List Int := words.take k ++ List.replicate (256 - k) 0
theorem firstWords_step (words : List Int) (k : Nat) (hk : k < words.length) (h : words.length ≤ 256) : (firstWords words k).set k words[k] = firstWords words (k + 1) := by
 unfold firstWords
 have hl : (words.take k).length = k := by simp; omega
 rw [List.set_append_right _ _ (by omega), hl, Nat.sub_self, show 256 - k = (256 - (k + 1)) + 1 by omega, List.replicate_succ, List.set_cons_zero, List.take_succ_eq_append_getElem hk, List.append_assoc]
 rfl
theorem firstWords_length (words : List Int) (k : Nat) (hk : k ≤ words.length) (h : words.length ≤ 256) : (firstWords words k).length = 256 := by simp [firstWords]; omega
theorem zeroCs_ok : zeroCs.Ok := ⟨by simp [isWord, zeroCs], by simp [isWord, zeroCs], by simp [isWord, zeroCs], rfl, fun x hx => by simp [zeroCs] at hx; subst hx; simp [isWord]⟩
end Dp
end Go.Proofs.YtdipojfngdceoaaGreatDoor

namespace Go.Proofs.YtdipojfngdceoaaGreatDoor
namespace Dp
open Go
theorem run_index_one {P : Program} (w : World) (t e : TypeId) (len : Nat) (cs : Array Value) (k : Nat) (v : Value) (ht : (underlying t).run P w = .ok (.array len e) w) (hagg : (isAgg e).run P w = .ok false w) (hsz : (sizeOf e).run P w = .ok 1 w) (hk : k < len) (hv : cs[k]? = some v) :
  (Instr.index t (.agg cs) (.int .i64 k)).run P w = .ok v w := by
 have h0 : (0 : Int) ≤ k ∧ (k : Int) < len := by omega
 unfold Instr.index
 simp only [asIntOf, Sem.run_bind, Sem.run_pure, Result.andThen_ok, ht, h0, and_self, if_true, hsz, part, hagg, Int.toNat_natCast, Nat.mul_one, hv, Bool.false_eq_true, if_false]
end Dp
end Go.Proofs.YtdipojfngdceoaaGreatDoor

namespace Go.Proofs.YtdipojfngdceoaaGreatDoor
namespace Dp
open Go
def lateB (md : Region.Mode) (ops : Array Oper) (i : Nat) : List Nat :=
 (List.range ops.size).foldl (fun D k => match ops[k]? with
  | some ok => if ok.after.any fun e => Region.binds md e && (e.on == i || D.contains e.on) then k :: D else D
  | none => D) []
def lateOk (md : Region.Mode) (ops : Array Oper) (listed : Array Bool) (i n : Nat) (D : List Nat) : Bool :=
 ((List.range ops.size).all fun k => decide (k < n) || D.contains k) && D.all fun k => (match ops[k]? with
  | some ok => ok.after.any fun e => Region.binds md e && (e.on == i || D.contains e.on)
  | none => false) && !listed.getD k true
section
variable {P : Program} {md : Region.Mode} {ops : Array Oper} {Q : Exit → Act → World → Prop} {S : World → Prop} {n : Nat}
def wpAnyL (P : Program) (md : Region.Mode) (ops : Array Oper) (Q : Exit → Act → World → Prop) (S : World → Prop) (n : Nat) : Nat → Array Bool → Act → World → Prop
 | 0, listed, a, w => Region.ready md ops listed = [] ∧ Q .normal a w
 | fuel + 1, listed, a, w =>
  (Region.ready md ops listed = [] → Q .normal a w) ∧
  ∀ i ∈ Region.ready md ops listed, wpOp P ops Q i (fun a' w' => (i < n → S w') ∧ wpAnyL P md ops Q S n fuel (listed.setIfInBounds i true) a' w') a w
theorem wpAny_of_L : ∀ (fuel : Nat) (listed : Array Bool) (a : Act) (w : World), wpAnyL P md ops Q S n fuel listed a w → wpAny P md ops Q fuel listed a w
 | 0, _, _, _, h => h
 | fuel + 1, _, _, _, h => ⟨h.1, fun i hi => wpOp_mono (fun a' w' h' => wpAny_of_L fuel _ a' w' h'.2) (h.2 i hi)⟩
theorem late_not {listed : Array Bool} {i j : Nat} {D : List Nat} (hi : listed.getD i true = false) (hD : ∀ k ∈ D, ∃ ok, ops[k]? = some ok ∧ ∃ e ∈ ok.after, Region.binds md e = true ∧ (e.on = i ∨ e.on ∈ D)) (hun : ∀ k ∈ D, listed.getD k true = false) (hj : j ∈ Region.ready md ops listed) : j ∉ D := by
 intro hjD
 obtain ⟨_, oj, hoj, hall⟩ := mem_ready.1 hj
 obtain ⟨ok, hok, e, he, hb, hon⟩ := hD j hjD
 have : ok = oj := Option.some.inj (hok.symm.trans hoj)
 subst this
 have h1 := hall e he hb
 have h0 : listed.getD e.on true = false := hon.elim (fun h => h ▸ hi) (fun h => hun _ h)
 have h2 := getD_both h0
 rcases Nat.lt_or_ge e.on listed.size with h' | h'
 ·simp [h'] at h1 h2; rw [h2] at h1; cases h1
 ·simp [Array.getElem?_eq_none h'] at h1
theorem wpAnyL_first {i : Nat} {oi : Oper} {v : Value} {D : List Nat} (hi : ops[i]? = some oi) (hsel : ∀ (j : Nat) (o : Oper) cs b, ops[j]? = some o → o.op ≠ .select cs b) (hnD : ∀ k, n ≤ k → k < ops.size → k ∈ D)
  (hD : ∀ k ∈ D, ∃ ok, ops[k]? = some ok ∧ ∃ e ∈ ok.after, Region.binds md e = true ∧ (e.on = i ∨ e.on ∈ D))
  (hQ : ∀ c a w, Q (.panic c) (a.put oi.dst v) w → Q (.panic c) a w) :
  ∀ (fuel : Nat) (listed : Array Bool) (a : Act) (w : World), (∀ k ∈ D, listed.getD k true = false) →
   (∀ j oj, ops[j]? = some oj → j ≠ i → listed.getD j true = false → (∀ e ∈ oj.after, Region.binds md e = true → e.on ≠ i) → oi.apart ops oj = true) →
   i ∈ Region.ready md ops listed → YieldsIf P ops S oi v a → S w →
   wpAnyL P md ops Q S n fuel (listed.setIfInBounds i true) (a.put oi.dst v) w → wpAnyL P md ops Q S n (fuel + 1) listed a w := by
 intro fuel
 induction fuel with
 | zero =>
  intro listed a w _ _ hr hy hS H
  refine ⟨fun h => (by rw [h] at hr; cases hr), fun j hj => ?_⟩
  by_cases hji : j = i
  ·subst hji; exact hy.wpOp hi hS ⟨fun _ => hS, H⟩
  ·have := ready_mono hj hji
   rw [H.1] at this
   cases this
 | succ fuel ih =>
  intro listed a w hun hfree hr hy hS H
  refine ⟨fun h => (by rw [h] at hr; cases hr), fun j hj => ?_⟩
  by_cases hji : j = i
  ·subst hji; exact hy.wpOp hi hS ⟨fun _ => hS, H⟩
  ·have h1 := H.2 j (ready_mono hj hji)
   obtain ⟨hjun, oj, hoj, hall⟩ := mem_ready.1 hj
   have hnot : ∀ e ∈ oj.after, Region.binds md e = true → e.on ≠ i := fun e he hb heq => by
    have h1 := hall e he hb
    have h0 := (mem_ready.1 hr).1
    rw [heq] at h1
    rcases Nat.lt_or_ge i listed.size with h' | h'
    ·simp [h'] at h0 h1; rw [h0] at h1; cases h1
    ·simp [Array.getElem?_eq_none h'] at h1
   have hjD : j ∉ D := late_not (mem_ready.1 hr).1 hD hun hj
   have hjs : j < ops.size := (Array.getElem?_eq_some_iff.1 hoj).1
   have hjn : j < n := by
    rcases Nat.lt_or_ge j n with h | h
    ·exact h
    ·exact absurd (hnD j h hjs) hjD
   have h2 := wpOp_putIf hoj (hfree j oj hoj hji hjun hnot) (fun cs b => hsel i oi cs b hi) (fun cs b => hsel j oj cs b hoj) hQ hy h1
   have hset : ∀ k, k ≠ j → listed.getD k true = false → (listed.setIfInBounds j true).getD k true = false := fun k hk h => by rw [getD_set_ne true (Ne.symm hk)]; exact h
   have hfree' : ∀ k ok, ops[k]? = some ok → k ≠ i → (listed.setIfInBounds j true).getD k true = false →
     (∀ e ∈ ok.after, Region.binds md e = true → e.on ≠ i) → oi.apart ops ok = true := fun k ok hk hki hun' hno => by
    refine hfree k ok hk hki ?_ hno
    by_cases hjk : j = k
    ·subst hjk; exact hjun
    ·rw [getD_set_ne true hjk] at hun'; exact hun'
   refine wpOp_mono (fun a' w' h3 => ⟨fun _ => h3.2.1 hjn, ih (listed.setIfInBounds j true) a' w' (fun k hk => hset k (fun e => hjD (e ▸ hk)) (hun k hk)) hfree' (ready_mono hr (Ne.symm hji)) h3.1 (h3.2.1 hjn) ?_⟩) h2
   rw [Array.setIfInBounds_comm _ _ hji]
   exact h3.2.2
theorem wpAnyL_take (i : Nat) {oi : Oper} {v : Value} {fuel : Nat} {listed : Array Bool} {a : Act} {w : World} (hi : ops[i]? = some oi)
  (hs : (Region.noSelect ops && Region.free md ops listed i && (Region.ready md ops listed).contains i && lateOk md ops listed i n (lateB md ops i)) = true)
  (hQ : ∀ c a w, Q (.panic c) (a.put oi.dst v) w → Q (.panic c) a w) (hg : Region.wanted oi (yielded ops a.tmps) = true) (hy : ∀ wx, S wx → (execOp a.eval oi).run P wx = .ok (.value v) wx) (hS : S w)
  (h : wpAnyL P md ops Q S n fuel (listed.setIfInBounds i true) (a.put oi.dst v) w) : wpAnyL P md ops Q S n (fuel + 1) listed a w := by
 simp only [Bool.and_eq_true] at hs
 obtain ⟨⟨⟨hsel, hfr⟩, hrd⟩, hlate⟩ := hs
 unfold lateOk at hlate
 simp only [Bool.and_eq_true, List.all_eq_true] at hlate
 refine wpAnyL_first (D := lateB md ops i) hi (Region.noSelect_spec hsel) (fun k h1 h2 => ?_) (fun k hk => ?_) hQ fuel listed a w (fun k hk => ?_) (Region.free_spec hi hfr) (by simpa using hrd) (.inl ⟨hg, hy⟩) hS h
 ·have := hlate.1 k (by simpa using h2)
  simp only [Bool.or_eq_true, decide_eq_true_eq, List.contains_iff_mem] at this
  exact this.elim (fun h => absurd h (by omega)) id
 ·have := (hlate.2 k hk).1
  split at this
  ·rename_i ok hok
   obtain ⟨e, he, hb⟩ := Array.any_eq_true'.1 this
   simp only [Bool.and_eq_true, Bool.or_eq_true, beq_iff_eq] at hb
   exact ⟨ok, hok, e, he, hb.1, hb.2.imp id (fun h => by simpa using h)⟩
  ·cases this
 ·have := (hlate.2 k hk).2
  simpa using this
theorem wpAnyL_one (i : Nat) {oi : Oper} {fuel : Nat} {listed : Array Bool} {a : Act} {w : World} (hi : ops[i]? = some oi) (hr : Region.ready md ops listed = [i]) (hg : Region.wanted oi (yielded ops a.tmps) = true)
  (h : ∀ K : Act → World → Prop, (∀ a' w', (i < n → S w') ∧ wpAnyL P md ops Q S n fuel (listed.setIfInBounds i true) a' w' → K a' w') → oi.wp P a w K Q) : wpAnyL P md ops Q S n (fuel + 1) listed a w := by
 refine ⟨fun h0 => (by rw [hr] at h0; cases h0), fun j hj => ?_⟩
 rw [hr] at hj
 simp only [List.mem_singleton] at hj
 subst hj
 unfold wpOp
 simp only [hi, hg, if_true]
 exact .inl (h _ (fun _ _ h => h))
theorem wpAnyL_done {listed : Array Bool} {a : Act} {w : World} (hr : Region.ready md ops listed = []) (h : Q .normal a w) : ∀ fuel, wpAnyL P md ops Q S n fuel listed a w
 | 0 => ⟨hr, h⟩
 | _ + 1 => ⟨fun _ => h, by rw [hr]; simp⟩
theorem wp_region_L {id : Nat} {a : Act} {w : World} (S : World → Prop) (n : Nat) (hm : P.follows .mixedOrders = true)
  (h : wpAnyL P .any ops Q S n ops.size (Array.replicate ops.size false) a w.drew) : (Code.region id ops true).wp P Q a w :=
 wp_region_any hm (wpAny_of_L _ _ _ _ h)
end
end Dp
end Go.Proofs.YtdipojfngdceoaaGreatDoor

namespace Go.Proofs.YtdipojfngdceoaaGreatDoor
namespace Dp
open Go
section
variable {P : Program} {md : Region.Mode} {ops : Array Oper} {Q : Exit → Act → World → Prop} {S : World → Prop} {n : Nat}
theorem wpAnyL_late (fuel : Nat) : ∀ (listed : Array Bool) (a : Act) (w : World), (∀ k, k < n → listed.getD k true = true) → wpAny P md ops Q fuel listed a w → wpAnyL P md ops Q S n fuel listed a w := by
 induction fuel with
 | zero => exact fun _ _ _ _ h => h
 | succ fuel ih =>
  intro listed a w hl h
  refine ⟨h.1, fun i hi => wpOp_mono (fun a' w' h' => ⟨fun hlt => ?_, ih _ a' w' (fun k hk => ?_) h'⟩) (h.2 i hi)⟩
  ·have h0 := (mem_ready.1 hi).1
   rw [hl i hlt] at h0
   exact absurd h0 (by decide)
  ·by_cases e : i = k
   ·subst e
    have h0 := (mem_ready.1 hi).1
    rw [hl i hk] at h0
    exact absurd h0 (by decide)
   ·rw [getD_set_ne true e]; exact hl k hk
theorem wpAnyL_rest {fuel : Nat} {listed : Array Bool} {a : Act} {w : World} (hl : ((List.range n).all fun k => listed.getD k true) = true) (h : wpAny P md ops Q fuel listed a w) : wpAnyL P md ops Q S n fuel listed a w :=
 wpAnyL_late fuel listed a w (fun k hk => by simpa using List.all_eq_true.1 hl k (by simpa using hk)) h
theorem wpAny_pure (i : Nat) {oi : Oper} {v : Value} {fuel : Nat} {listed : Array Bool} {a : Act} {w : World} (hi : ops[i]? = some oi)
  (hs : (Region.noSelect ops && Region.free md ops listed i && (Region.ready md ops listed).contains i) = true)
  (hQ : ∀ c a w, Q (.panic c) (a.put oi.dst v) w → Q (.panic c) a w) (hy : Yields P ops oi v a)
  (h : wpAny P md ops Q fuel (listed.setIfInBounds i true) (a.put oi.dst v) w) : wpAny P md ops Q (fuel + 1) listed a w := by
 simp only [Bool.and_eq_true] at hs
 exact wpAny_take hi hs.1.1 hs.1.2 hs.2 hQ hy h
theorem wpAny_tail (k : Nat) {fuel : Nat} {listed : Array Bool} {a : Act} {w : World} (hf : fuel = ops.size - k) (hB : Region.seqB md ops (ops.size - k) k listed = true) (h : wpList P ops Q (ops.toList.drop k) a w) : wpAny P md ops Q fuel listed a w := by
 have hl : (ops.toList.drop k).length = ops.size - k := by simp
 rw [hf, ← hl]
 rw [← hl] at hB
 exact wpAny_of_seq _ k listed a w (fun j => by simp) hB h
end
end Dp
end Go.Proofs.YtdipojfngdceoaaGreatDoor

namespace Go.Proofs.YtdipojfngdceoaaGreatDoor
theorem Dp.tks : (∀ {α : Type} {xs : List α} {i : Nat} (h : i < xs.toArray.size), xs.toArray[i] = xs[i]'(by simpa using h)) ∧ (∀ {α : Type} (a : α) (bs : List α) (h : 0 < (a :: bs).length), (a :: bs)[0] = a) ∧ (∀ {α : Type} (a : α) (bs : List α) (i : Nat) (h : i + 1 < (a :: bs).length), (a :: bs)[i + 1] = bs[i]'(by simpa using h)) ∧
  (∀ {α : Type} (l : List α) (i : Nat) (a : α), l.toArray.setIfInBounds i a = (l.set i a).toArray) ∧ (∀ {α : Type} {x : α} {xs : List α} {a : α}, (x :: xs).set 0 a = a :: xs) ∧ (∀ {α : Type} {x : α} {xs : List α} {n : Nat} {a : α}, (x :: xs).set (n + 1) a = x :: xs.set n a) :=
 ⟨fun h => List.getElem_toArray h, fun a bs h => List.getElem_cons_zero a bs h, fun a bs i h => List.getElem_cons_succ a bs i h, fun l i a => List.setIfInBounds_toArray l i a, List.set_cons_zero, List.set_cons_succ⟩
end Go.Proofs.YtdipojfngdceoaaGreatDoor

namespace Go.Proofs.YtdipojfngdceoaaGreatDoor
open Go.RowKit
namespace Dp
variable {P : Program} {md : Region.Mode} {ops : Array Oper} {Q : Exit → Act → World → Prop} {S : World → Prop} {n : Nat}
theorem tk (i : Nat) {oi : Oper} {v : Value} {fuel : Nat} {listed : Array Bool} {a : Act} {w : World}
  (hy : ∀ wx, S wx → (execOp a.eval oi).run P wx = .ok (.value v) wx) (hS : S w) (h : wpAnyL P md ops Q S n fuel (listed.setIfInBounds i true) (a.put oi.dst v) w)
  (hi : ops[i]? = some oi := by rfl) (hs : (Region.noSelect ops && Region.free md ops listed i && (Region.ready md ops listed).contains i && lateOk md ops listed i n (lateB md ops i)) = true := by kernel_rfl)
  (hQ : ∀ c a w, Q (.panic c) (a.put oi.dst v) w → Q (.panic c) a w := by exact fun _ _ _ h => h) (hg : Region.wanted oi (yielded ops a.tmps) = true := by rfl) : wpAnyL P md ops Q S n (fuel + 1) listed a w :=
 wpAnyL_take i hi hs hQ hg hy hS h
theorem tj (i : Nat) {oi : Oper} {v : Value} {fuel : Nat} {listed : Array Bool} {a : Act} {w : World}
  (hS : S w) (h : wpAnyL P md ops Q S n fuel (listed.setIfInBounds i true) (a.put oi.dst v) w)
  (hi : ops[i]? = some oi := by rfl) (hs : (Region.noSelect ops && Region.free md ops listed i && (Region.ready md ops listed).contains i && lateOk md ops listed i n (lateB md ops i)) = true := by kernel_rfl)
  (hg : Region.wanted oi (yielded ops a.tmps) = true := by rfl)
  (hy : ∀ wx, S wx → (execOp a.eval oi).run P wx = .ok (.value v) wx := by intro wx hSx; go_simp; try with_reducible rfl)
  (hQ : ∀ c a w, Q (.panic c) (a.put oi.dst v) w → Q (.panic c) a w := by exact fun _ _ _ h => h) : wpAnyL P md ops Q S n (fuel + 1) listed a w :=
 wpAnyL_take i hi hs hQ hg hy hS h
end Dp
end Go.Proofs.YtdipojfngdceoaaGreatDoor

namespace Go.Proofs.YtdipojfngdceoaaGreatDoor
namespace Dp
open Go
theorem wp_invoke {P : Program} {w : World} {o : Oper} {a : Act} {K : Act → World → Prop} {Q : Exit → Act → World → Prop} (c : Call) (recv : Operand) (name : String) (ho : o.op = .call c) (hc : c.callee = .invoke recv name)
  (T : TypeId) (x : Value) (hr : a.eval recv = .iface T x) (vals : Array Value) (hv : c.args.map a.eval = vals) (f : FuncId) (fargs : Array Value)
  (hm : ∀ wx, (callMethod (.iface T x) name vals).run P wx = .ok (.enter f fargs) wx)
  (h : Calls P f fargs w fun e w'' => match e with
   | .returned v => K (a.put o.dst v) w''
   | .panicked chain => Q (.panic chain) a w''
   | .outgrown => LetsOut Q) : o.wp P a w K Q := by
 have e1 : (execOp a.eval o).run P w = .ok (.enter f fargs) w := by
  unfold execOp
  simp only [ho, resolve, hc, hr, hv, Sem.run_bind, Sem.run_pure, Result.andThen_ok, invoke]
  have e2 : (#[Value.iface T x] ++ vals)[0]? = some (.iface T x) := by rw [Array.getElem?_append_left (show 0 < 1 by omega)]; rfl
  have e3 : (#[Value.iface T x] ++ vals).extract 1 (#[Value.iface T x] ++ vals).size = vals := by
   apply Array.ext'; simp
  rw [e2, e3]
  exact hm w
 unfold Oper.wp
 rw [e1, Oper.upon_enter]
 refine h.mono ?_
 intro e w'' he
 cases e <;> exact he
theorem wp_callFn {P : Program} {w : World} {o : Oper} {a : Act} {K : Act → World → Prop} {Q : Exit → Act → World → Prop} (c : Call) (fo : Operand) (ho : o.op = .call c) (hc : c.callee = .value fo)
  (f : FuncId) (hf : a.eval fo = .func (.func f) #[] #[]) (vals : Array Value) (hv : c.args.map a.eval = vals)
  (hm : (callFunc f vals).run P w = .ok (.enter f vals) w)
  (h : Calls P f vals w fun e w'' => match e with
   | .returned v => K (a.put o.dst v) w''
   | .panicked chain => Q (.panic chain) a w''
   | .outgrown => LetsOut Q) : o.wp P a w K Q := by
 have e1 : (execOp a.eval o).run P w = .ok (.enter f vals) w := by
  unfold execOp
  simp only [ho, resolve, hc, hf, hv, Deferred.ofValue, Sem.run_bind, Sem.run_pure, Result.andThen_ok, invoke, Array.empty_append, Array.append_empty]
  exact hm
 unfold Oper.wp
 rw [e1, Oper.upon_enter]
 refine h.mono ?_
 intro e w'' he
 cases e <;> exact he
end Dp
end Go.Proofs.YtdipojfngdceoaaGreatDoor

namespace Go.Proofs.YtdipojfngdceoaaGreatDoor
namespace Dp
theorem perform_still {σ : Type} (M : Memo σ) (s : Cs) (m : σ) (i : Ins) (h13 : i.op ≠ 13) (h14 : i.op ≠ 14) (h19 : i.op ≠ 19) : perform M s m i = some ((still s i).1, m, (still s i).2) := by
 unfold perform; rw [if_neg h13, if_neg h14, if_neg h19]
theorem still_alu (s : Cs) (i : Ins) (v : Int) (h1 : 1 ≤ i.op) (h12 : i.op ≤ 12) (h10 : i.op ≠ 10) (hv : aluOf s i = v) : still s i = (putted s i v, 0) := by
 rw [← hv]
 exact still_put s i (by unfold isPlain; simp; omega) (fun h => h10 h.1) (by omega) (by omega)
theorem still_div (s : Cs) (i : Ins) (h : i.op = 10) (hz : s.reg i.c ≠ 0) : still s i = (putted s i (s.reg i.b / s.reg i.c), 0) := by
 have e : aluOf s i = s.reg i.b / s.reg i.c := by simp [aluOf, h]
 rw [← e]
 exact still_put s i (by rw [h]; rfl) (fun h => hz h.2) (by omega) (by omega)
theorem still_div0 (s : Cs) (i : Ins) (h : i.op = 10) (hz : s.reg i.c = 0) : still s i = (s, 4) := by
 unfold still plain; rw [h, hz]; simp [isPlain]
theorem still_halt (s : Cs) (i : Ins) (hl : s.regs.length = 8) (hi : i.Ok) (h : i.op = 0) : still s i = ({ s with over := true, code := s.reg i.a }, 0) := by
 have e : aluOf s i = s.reg i.a := by simp [aluOf, h]
 rw [still_of s i (by rw [h]; rfl) (fun h' => by omega), e, set_self s hl i.a hi.a]
 simp [nextOf, h]
theorem still_same (s : Cs) (i : Ins) (hl : s.regs.length = 8) (hi : i.Ok) (h : i.op = 15) : still s i = (jumped s i (s.reg i.a == s.reg i.b), 0) := by
 have e : aluOf s i = s.reg i.a := by simp [aluOf, h]
 rw [still_of s i (by rw [h]; rfl) (fun h' => by omega), e, set_self s hl i.a hi.a]
 simp [nextOf, h, jumped]
theorem still_other (s : Cs) (i : Ins) (hl : s.regs.length = 8) (hi : i.Ok) (h : i.op = 16) : still s i = (jumped s i (s.reg i.a != s.reg i.b), 0) := by
 have e : aluOf s i = s.reg i.a := by simp [aluOf, h]
 rw [still_of s i (by rw [h]; rfl) (fun h' => by omega), e, set_self s hl i.a hi.a]
 simp [nextOf, h, jumped]
theorem still_under (s : Cs) (i : Ins) (hl : s.regs.length = 8) (hi : i.Ok) (h : i.op = 17) : still s i = (jumped s i (s.reg i.a < s.reg i.b), 0) := by
 have e : aluOf s i = s.reg i.a := by simp [aluOf, h]
 rw [still_of s i (by rw [h]; rfl) (fun h' => by omega), e, set_self s hl i.a hi.a]
 simp [nextOf, h, jumped]
theorem still_call (s : Cs) (i : Ins) (h : i.op = 18) : still s i = ({ s with pc := wrap (s.reg i.b + i.n), regs := s.regs.set i.a.toNat (wrap (s.pc + 1)) }, 0) := by
 have e : aluOf s i = wrap (s.pc + 1) := by simp [aluOf, h]
 rw [still_of s i (by rw [h]; rfl) (fun h' => by omega), e]
 simp [nextOf, h]
theorem still_none (s : Cs) (i : Ins) (h : 20 ≤ i.op) : still s i = (s, 2) := by
 have e : isPlain i.op = false := by unfold isPlain; simp; omega
 unfold still plain; rw [e]; simp
end Dp
end Go.Proofs.YtdipojfngdceoaaGreatDoor

namespace Go.Proofs.YtdipojfngdceoaaGreatDoor
namespace Dp
open Go.RowKit
theorem wpList_make_cap {P : Program} (w : World) {ops : Array Oper} {rest : List Oper} {o : Oper} {a : Act} {Q : Exit → Act → World → Prop}
  (hg : o.guard = none) (l c : Operand) (t : TypeId) (hop : o.op = Op.makeSlice t l c)
  (e : TypeId) (z : Value) (bytes : Nat) (h1 : P.underlying t = some (.slice e)) (h2 : (P.info? e).map (fun i => (i.zero, i.size, i.bytes)) = some (some z, 1, bytes)) (hz : z.cells = #[z])
  (kl kc : IntKind) (C : Int) (n : Nat) (hl : a.eval l = .int kl 0) (hc : a.eval c = .int kc C) (hC : C = (n : Int)) (b2 : bytes * n ≤ 281474976710656) (b3 : n ≤ maxLen)
  (hK : ∀ v w', Own w' e v [] → v.ownBlock = some w.heap.size → w'.heap.size = w.heap.size + 1 → Keeps (fun _ => False) w w' → wpList P ops Q rest (a.put o.dst v) w') :
  wpList P ops Q (o :: rest) a w := by
 refine wpList_plain hg fun K hK' => ?_
 obtain ⟨i, hi, hz0, hz1, hz2⟩ := info_parts h2
 subst hC
 unfold maxLen at b3
 have hrun := run_make (P := P) w t e i z h1 hi hz0 kl kc 0 (n : Int) (by omega) (by omega) (by rw [hz2, ← Int.natCast_mul]; omega) (by omega)
 rw [hz1, hz, Int.toNat_natCast, Nat.mul_one, madeCells_one] at hrun
 unfold Oper.wp
 simp only [execOp, hop, hl, hc, hrun, Result.andThen, Sem.run_bind]
 refine hK' _ _ (hK _ _ (.inr ⟨w.heap.size, List.replicate n z, ?_, ?_, ?_⟩) rfl (by simp) ((Keeps.refl _ _).alloc _))
 ·simp
 ·exact Row.allocNew w e (List.replicate n z)
 ·simp [maxLen]; omega
end Dp
end Go.Proofs.YtdipojfngdceoaaGreatDoor

namespace Go.Proofs.YtdipojfngdceoaaGreatDoor
open Go.RowKit Dp
theorem infoBytes : (Tryz.prog.info? 47).map (fun i => (i.zero, i.size, i.bytes)) = some (some (.slice none 0 0), 1, 24) := by kernel_rfl
namespace Dp
theorem vals_cell {w : World} {b : Nat} {e : TypeId} {l r : List UInt8} (hb : Row w b e (vals (l ++ r))) (j : Nat) (hj : j < l.length) : w.cell? ((⟨b, 0, none⟩ : Addr).add j) = some (.int .u8 (l[j].toNat : Int)) := by
 have h := hb.cell j
 simp only [vals, List.map_append] at h
 rw [List.getElem?_append_left (by simpa using hj)] at h
 rw [add_zero_off, h]; simp [hj]
end Dp
set_option maxHeartbeats 800000 in
theorem returned_any (s : ByteArray) (w : World) (N b : Nat) (v0 v1 v2 v3 v4 v5 : Value) (xs : List Value) (hs : s.size ≤ 16777216) (hk : xs.length ≤ 16777216)
  (hb : Row w b 5 (vals (s.data.toList ++ [252, 253]))) (hN : Row w N 32 [v0, v1, v2, v3, v4, v5]) (hown : Own w 47 v2 xs) :
  Calls Tryz.prog 31 #[.pointer (some ⟨N, 0, none⟩), .slice (some ⟨b, 0, none⟩) (s.size + 2) (s.size + 2), .string s] w fun e w' => e = .returned (.bool true) ∧
   Row w' b 5 (List.replicate (s.size + 2) (.int .u8 251)) ∧ Keeps (fun j => j = b ∨ j = N ∨ v2.ownBlock = some j) w w' ∧
   ∃ v2', Row w' N 32 [v0, v1, v2', v3, v4, v5] ∧ Own w' 47 v2' (xs ++ [.slice (some ⟨b, 0, none⟩) (s.size + 2) (s.size + 2)]) ∧ (v2'.ownBlock = v2.ownBlock ∨ ∀ g, v2'.ownBlock = some g → w.heap.size ≤ g) := by
 have hconv := run_convert_bytes_back (P := Tryz.prog) w 47 9 5 ⟨b, 0, none⟩ (s.size + 2) s.data.toList Tryz.underlying47 Tryz.underlying5 Tryz.underlying9 (vals_cell hb)
 have el : s.data.toList.length = s.size := by simp
 rw [el] at hconv
 have c0 : w.cell? ⟨b, s.size, none⟩ = some (.int .u8 252) := by rw [hb.cell]; simp [vals]
 have c1 : w.cell? ⟨b, s.size + 1, none⟩ = some (.int .u8 253) := by rw [hb.cell]; simp [vals]
 clear el
 go_enter Tryz.func31, Tryz.ntmps31
 go_wp2
 clear hconv c0 c1
 go_loopw [9] (fun i wr => ∃ j : Nat, j ≤ s.size + 2 ∧ i = .int .i64 j ∧ Row wr b 5 (List.replicate j (.int .u8 251) ++ (vals (s.data.toList ++ [252, 253])).drop j) ∧ Keeps (fun q => q = b) w wr) (fun i _ => s.size + 2 - (intOf i).toNat)
 case atStart => exact ⟨0, Nat.zero_le _, rfl, by simpa using hb, Keeps.refl _ _⟩
 case round =>
  obtain ⟨j, hj, rfl, rb, kb⟩ := hrel
  by_cases hlt : j < s.size + 2
  ·have hlen : (vals (s.data.toList ++ [252, 253])).length = s.size + 2 := by simp [vals]
   obtain ⟨u, cj⟩ : ∃ u, wr.cell? ⟨b, j, none⟩ = some u := ⟨_, fill_cell rb (by omega)⟩
   have fj := rb.frozen j
   have RB : Hid (Row (wr.setCell ⟨b, j, none⟩ (.int .u8 251)) b 5 (List.replicate (j + 1) (.int .u8 251) ++ (vals (s.data.toList ++ [252, 253])).drop (j + 1))) := by
    have h := rb.set j (.int .u8 251)
    rw [fill_step _ _ _ (by omega)] at h
    exact h
   clear hlen
   go_wp2
   go_roundw
   case rel => exact ⟨j + 1, by omega, by go_num, RB.out, kb.setCell (.inr rfl) _⟩
   case measure => simp [intOf]; omega
  ·obtain rfl : j = s.size + 2 := by omega
   rw [List.drop_eq_nil_of_le (by simp [vals]), List.append_nil] at rb
   have hNb : N ≠ b := hN.ne hb (by decide)
   have hob := hown.ne hb (by decide)
   have hoN := hown.ne hN (by decide)
   have hN1 := hN.keep kb hNb
   have hown1 := hown.keep kb hob
   have cN : wr.cell? ⟨N, 2, none⟩ = some v2 := hN1.cellAt 2 (by simp)
   have zw := hN1.lt
   clear hN hown hb hlt
   go_wp2_with (at_builtin; refine wpList_append_Own rfl _ _ 27 rfl 47 (.slice none 0 0) 24 Tryz.underlying27 infoBytes rfl v2 xs rfl (hown1.alloc _) _ 1 1 [.slice (some ⟨b, 0, none⟩) (s.size + 2) (s.size + 2)] rfl rfl (cell_one_new _ _ _) (fun x hx => by simp at hx; subst hx; rfl) (by omega) (by unfold maxLen; omega) (by omega) ?_)
   intro v2' w2 own2 k2 sz2
   have k3 : Keeps (fun k => v2.ownBlock = some k) wr w2 := ((Keeps.refl _ _).alloc _).next k2 (fun _ _ h => h)
   have hN2 := hN1.keep k3 (fun e => hoN N e rfl)
   have cN2 : w2.cell? ⟨N, 2, none⟩ = some v2 := hN2.cellAt 2 (by simp)
   have fN2 := hN2.frozen 2
   have own3 : ∃ ad cap, v2' = .slice ad (xs.length + 1) cap := by simpa using own2.isSlice
   obtain ⟨ad3, cap3, e3⟩ := own3
   have E3 : Hid (v2' = .slice ad3 (xs.length + 1) cap3) := e3
   rw [e3]
   clear e3
   go_wp2
   go_ret
   rw [← E3.out]
   have hb2 := rb.keep k3 (fun e => hob b e rfl)
   refine ⟨rfl, hb2.setOther _ _ (Ne.symm hNb), ?_, v2', hN2.set 2 v2', ?_, ?_⟩
   ·refine Keeps.setCell ?_ (.inr (.inr (.inl rfl))) _
    exact (kb.mono (fun k _ e => .inl e)).next k3 (fun k _ e => .inr (.inr e))
   ·refine own2.keep ((Keeps.refl (fun k => k = N) w2).setCell (.inr rfl) _) ?_
    intro g hg e
    subst e
    exact own2.ne hN2 (by decide) g hg rfl
   ·rcases sz2.out with h | h
    ·exact .inl h.1
    ·refine .inr fun g hg => ?_
     rw [h.1] at hg
     have := kb.size
     simp at hg
     omega
end Go.Proofs.YtdipojfngdceoaaGreatDoor

namespace Go.Proofs.YtdipojfngdceoaaGreatDoor
open Go.RowKit
namespace Dp
theorem fold_fill (off : Nat) : ∀ (vs pre mid post : List Value) (k : Nat), mid.length = vs.length → pre.length = off + k →
  (vs.zipIdx k).foldl (fun (cs : Array Value) (x : Value × Nat) => cs.setIfInBounds (off + x.2) x.1) (pre ++ mid ++ post).toArray = (pre ++ vs ++ post).toArray
 | [], pre, mid, post, k, h, _ => by
  obtain rfl : mid = [] := by simpa using h
  rfl
 | v :: r, pre, [], post, k, h, _ => by simp at h
 | v :: r, pre, m :: ms, post, k, h, hp => by
  have e : (pre ++ m :: ms ++ post).toArray.setIfInBounds (off + k) v = ((pre ++ [v]) ++ ms ++ post).toArray := by
   rw [← hp, List.setIfInBounds_toArray, List.append_assoc, List.set_append_right _ _ (Nat.le_refl _), Nat.sub_self]
   simp
  rw [List.zipIdx_cons, List.foldl_cons]
  simp only
  rw [e, fold_fill off r (pre ++ [v]) ms post (k + 1) (by simpa using h) (by simp; omega)]
  simp
theorem fill_part (place : Nat → Option (Nat × Nat)) (i off : Nat) (pre mid post vs : List Value) (hpl : place i = some (off, vs.length)) (hm : mid.length = vs.length) (hp : pre.length = off) :
  Instr.fill place (pre ++ mid ++ post).toArray [(i, .agg vs.toArray)] = some (pre ++ vs ++ post).toArray := by
 have hc : (Value.agg vs.toArray).cells = vs.toArray := rfl
 have hs : ¬ (vs.toArray.size ≠ vs.length || decide (off + vs.toArray.size > (pre ++ mid ++ post).toArray.size)) = true := by
  simp; omega
 unfold Instr.fill
 rw [hpl]
 simp only [hc]
 rw [if_neg hs]
 unfold Instr.fill
 congr 1
 rw [← Array.foldl_toList, Array.toList_zipIdx]
 exact fold_fill off vs pre mid post 0 hm (by simpa using hp)
theorem wpList_build_one {P : Program} {w : World} {ops : Array Oper} {rest : List Oper} {o : Oper} {a : Act} {Q : Exit → Act → World → Prop} (hgd : o.guard = none) (t : TypeId) (i : Nat) (x : Operand) (ho : o.op = .build t #[(i, x)]) (u v : Value) (hx : a.eval x = u)
  (hrun : (Instr.build t #[(i, u)]).run P w = .ok v w) (h : Hid True → wpList P ops Q rest (a.put o.dst v) w) : wpList P ops Q (o :: rest) a w := by
 refine wpList_plain hgd fun K hK => ?_
 have e : (execOp a.eval o).run P w = .ok (.value v) w := by
  unfold execOp
  simp only [ho, List.map_toArray, List.map_cons, List.map_nil, hx, Sem.run_bind, hrun, Result.andThen_ok, Sem.run_pure]
 unfold Oper.wp
 rw [e]
 exact hK _ _ (h trivial)
end Dp
end Go.Proofs.YtdipojfngdceoaaGreatDoor
