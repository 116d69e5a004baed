/- Steps on the way: PureRun, PureDig, PureNew, IndexAgg, RegionLate, RegionLate2, PureProof, BuildTwo, Invoke, MemoStill, MakeCap, Returned. -/
import Derived.Test.YtdipojfngdceoabGreatDoorPack01
import Derived.Test.YtdipojfngdceoabGreatDoorPack32
import Derived.Test.YtdipojfngdceoabGreatDoorPack33
import Derived.Test.YtdipojfngdceoabGreatDoorProg
import Derived.WalkKit
import Derived.WalkSpells
import Derived.WalkLawsBesides
import Derived.StillTail
import Derived.OrdersHeld
import Derived.Test.YtdipojfngdceoabGreatDoorRows
/- Runs of the plain machine. -/
namespace Go.Proofs.YtdipojfngdceoabGreatDoor
open Go.RowKit

namespace Dp
/-- k steps have been done, none of them an error, none from a state that was over. -/
def Mach.after (m : Mach) : Nat → Mach
  | 0 => m
  | k + 1 => ((Mach.after m k).step).1
theorem Mach.run_reach (m : Mach) : ∀ (k : Nat) (m0 : Mach), (∀ j, j < k → ((Mach.after m0 j).s.over = false ∧ (Mach.after m0 j).step.2 = 0)) → Mach.after m0 k = m → ∀ n, Mach.run (k + n) m0 = ((Mach.run n m).1, (Mach.run n m).2.1 + k, (Mach.run n m).2.2) := by
  intro k
  induction k with
  | zero => intro m0 _ h n; subst h; simp [Mach.after]
  | succ k ih =>
    intro m0 hno h n
    have h0 := hno 0 (by omega)
    have hshift : ∀ j, Mach.after m0.step.1 j = Mach.after m0 (j + 1) := by
      intro j
      induction j with
      | zero => rfl
      | succ j ihj => show ((Mach.after m0.step.1 j).step).1 = _; rw [ihj]; rfl
    have := ih m0.step.1 (fun j hj => by rw [hshift]; exact hno (j + 1) (by omega)) (by rw [hshift]; exact h) n
    rw [show k + 1 + n = (k + n) + 1 by omega]
    show (if m0.s.over then (m0, 0, 0) else if m0.step.2 ≠ 0 then (m0, 0, m0.step.2) else ((Mach.run (k + n) m0.step.1).1, (Mach.run (k + n) m0.step.1).2.1 + 1, (Mach.run (k + n) m0.step.1).2.2)) = _
    have h00 : m0.s.over = false := h0.1
    have h01 : m0.step.2 = 0 := h0.2
    rw [h00, h01, this]
    simp
    omega
/-- With an error the machine stays as it is. -/
theorem step_same (m : Mach) (h : m.step.2 ≠ 0) : m.step.1 = m := by
  unfold Mach.step at h ⊢
  split
  · rfl
  split
  · rfl
  rename_i h1 h2
  rw [if_neg h1, if_neg h2] at h
  simp only at h ⊢
  split
  · rename_i h3
    rw [if_pos h3] at h
    split
    · rfl
    · rename_i h4
      rw [if_neg h4] at h
      split at h <;> exact absurd rfl h
  · rename_i h3
    rw [if_neg h3] at h
    split
    · rename_i h4
      rw [if_pos h4] at h
      cases hf : findSrc m.srcs (m.s.reg (decode (m.cell m.s.pc)).b) with
      | none => rfl
      | some l => rw [hf] at h; exact absurd rfl h
    · rename_i h4
      rw [if_neg h4] at h
      have := plain_same m.s _ h
      rw [this]
end Dp

end Go.Proofs.YtdipojfngdceoabGreatDoor

/- Digests of cells, and cells of numbers: no function of a program is named here. -/
namespace Go.Proofs.YtdipojfngdceoabGreatDoor
open Go.RowKit

namespace Dp
theorem Row.intAt {w : World} {g : Nat} {e : TypeId} {l : List Int} {tail : List Value} (h : Row w g e (regCells l ++ tail)) (j : Nat) (hj : j < l.length) : w.cell? ⟨g, j, none⟩ = some (.int .i64 (l.getD j 0)) := by
  rw [h.cell, List.getElem?_append_left (by simpa [regCells] using hj)]
  simp [regCells, hj, List.getD_eq_getElem?_getD]
theorem digest_zero (cells : List Int) (at_ : Nat) : digest cells at_ 0 = sum (0 :: four (cells.getD at_ 0)) := rfl
theorem digest_succ (cells : List Int) (at_ d : Nat) : digest cells at_ (d + 1) = sum (1 :: (two (digest cells at_ d) ++ two (digest cells (at_ + 2 ^ d) d))) := rfl
theorem root_bd (cells : List Int) : 0 ≤ root cells ∧ root cells < 65521 := digest_bd cells 0 8
end Dp

end Go.Proofs.YtdipojfngdceoabGreatDoor

/- What a machine is made of, in memory. -/
namespace Go.Proofs.YtdipojfngdceoabGreatDoor
open Go.RowKit

theorem infoInt : (Tryz.prog.info? 3).map (fun i => (i.zero, i.size, i.bytes)) = some (some (.int .i64 0), 1, 8) := by kernel_rfl
theorem infoStr : (Tryz.prog.info? 9).map (fun i => (i.zero, i.size, i.bytes)) = some (some (.string ⟨#[]⟩), 1, 16) := by kernel_rfl

namespace Dp
/-- The slice value v holds just these numbers. -/
def Ints (w : World) (v : Value) (l : List Int) : Prop :=
  ∃ b o ad cap, v = .slice ad l.length cap ∧ l.length ≤ 1048576 ∧ (l ≠ [] → ad = some ⟨b, o, none⟩ ∧ b < w.heap.size) ∧ ∀ i (h : i < l.length), w.cell? ⟨b, o + i, none⟩ = some (.int .i64 l[i])
/-- The slice value v holds just these texts. -/
def Texts (w : World) (v : Value) (l : List (List UInt8)) : Prop :=
  ∃ b o ad cap, v = .slice ad l.length cap ∧ l.length ≤ 1048576 ∧ (l ≠ [] → ad = some ⟨b, o, none⟩ ∧ b < w.heap.size) ∧ ∀ i (h : i < l.length), l[i].length ≤ 1048576 ∧ w.cell? ⟨b, o + i, none⟩ = some (.string (str l[i]))
def zeroCs : Cs := ⟨0, 0, 0, false, [0, 0, 0, 0, 0, 0, 0, 0]⟩
/-- Can a machine be made of these? -/
def newOk (words : List Int) (srcs : List (List UInt8)) : Bool := decide (words.length ≤ 256) && decide (srcs.length ≤ 8) && words.all (fun x => decide (0 ≤ x) && decide (x < 4294967296)) && srcs.all (fun l => decide (l.length ≤ 200))
def newMach (words : List Int) (srcs : List (List UInt8)) : Mach := ⟨zeroCs, words ++ List.replicate (256 - words.length) 0, srcs⟩
def firstWords (words : List Int) (k : Nat) : List Int := words.take k ++ List.replicate (256 - k) 0
theorem firstWords_step (words : List Int) (k : Nat) (hk : k < words.length) (h : words.length ≤ 256) : (firstWords words k).set k words[k] = firstWords words (k + 1) := by
  unfold firstWords
  have hl : (words.take k).length = k := by simp; omega
  rw [List.set_append_right _ _ (by omega), hl, Nat.sub_self, show 256 - k = (256 - (k + 1)) + 1 by omega, List.replicate_succ, List.set_cons_zero, List.take_succ_eq_append_getElem hk, List.append_assoc]
  rfl
theorem firstWords_length (words : List Int) (k : Nat) (hk : k ≤ words.length) (h : words.length ≤ 256) : (firstWords words k).length = 256 := by simp [firstWords]; omega
theorem zeroCs_ok : zeroCs.Ok := ⟨by simp [isWord, zeroCs], by simp [isWord, zeroCs], by simp [isWord, zeroCs], rfl, fun x hx => by simp [zeroCs] at hx; subst hx; simp [isWord]⟩
end Dp

end Go.Proofs.YtdipojfngdceoabGreatDoor

/- An array that is a value is read at an index. It holds of every program. -/
namespace Go.Proofs.YtdipojfngdceoabGreatDoor
namespace Dp
open Go

theorem run_index_one {P : Program} (w : World) (t e : TypeId) (len : Nat) (cs : Array Value) (k : Nat) (v : Value) (ht : (underlying t).run P w = .ok (.array len e) w) (hagg : (isAgg e).run P w = .ok false w) (hsz : (sizeOf e).run P w = .ok 1 w) (hk : k < len) (hv : cs[k]? = some v) :
    (Instr.index t (.agg cs) (.int .i64 k)).run P w = .ok v w := by
  have h0 : (0 : Int) ≤ k ∧ (k : Int) < len := by omega
  unfold Instr.index
  simp only [asIntOf, Sem.run_bind, Sem.run_pure, Result.andThen_ok, ht, h0, and_self, if_true, hsz, part, hagg, Int.toNat_natCast, Nat.mul_one, hv, Bool.false_eq_true, if_false]
end Dp
end Go.Proofs.YtdipojfngdceoabGreatDoor

/- A region that draws its order, reads memory and ends in one operation that writes and waits for all others, be it through others: the reads are taken first. It holds of every program. -/
namespace Go.Proofs.YtdipojfngdceoabGreatDoor
namespace Dp
open Go

/-- The operations that wait for number i, be it through others. -/
def lateB (md : Region.Mode) (ops : Array Oper) (i : Nat) : List Nat :=
  (List.range ops.size).foldl (fun D k => match ops[k]? with
    | some ok => if ok.after.any fun e => Region.binds md e && (e.on == i || D.contains e.on) then k :: D else D
    | none => D) []
/-- They do, and none of them is listed yet; all from number n on are of them. -/
def lateOk (md : Region.Mode) (ops : Array Oper) (listed : Array Bool) (i n : Nat) (D : List Nat) : Bool :=
  ((List.range ops.size).all fun k => decide (k < n) || D.contains k) && D.all fun k => (match ops[k]? with
    | some ok => ok.after.any fun e => Region.binds md e && (e.on == i || D.contains e.on)
    | none => false) && !listed.getD k true

section
variable {P : Program} {md : Region.Mode} {ops : Array Oper} {Q : Exit → Act → World → Prop} {S : World → Prop} {n : Nat}

/-- Whatever order is picked from here on; S holds behind every operation whose number is below n. -/
def wpAnyL (P : Program) (md : Region.Mode) (ops : Array Oper) (Q : Exit → Act → World → Prop) (S : World → Prop) (n : Nat) : Nat → Array Bool → Act → World → Prop
  | 0, listed, a, w => Region.ready md ops listed = [] ∧ Q .normal a w
  | fuel + 1, listed, a, w =>
    (Region.ready md ops listed = [] → Q .normal a w) ∧
    ∀ i ∈ Region.ready md ops listed, wpOp P ops Q i (fun a' w' => (i < n → S w') ∧ wpAnyL P md ops Q S n fuel (listed.setIfInBounds i true) a' w') a w

theorem wpAny_of_L : ∀ (fuel : Nat) (listed : Array Bool) (a : Act) (w : World), wpAnyL P md ops Q S n fuel listed a w → wpAny P md ops Q fuel listed a w
  | 0, _, _, _, h => h
  | fuel + 1, _, _, _, h => ⟨h.1, fun i hi => wpOp_mono (fun a' w' h' => wpAny_of_L fuel _ a' w' h'.2) (h.2 i hi)⟩

theorem late_not {listed : Array Bool} {i j : Nat} {D : List Nat} (hi : listed.getD i true = false) (hD : ∀ k ∈ D, ∃ ok, ops[k]? = some ok ∧ ∃ e ∈ ok.after, Region.binds md e = true ∧ (e.on = i ∨ e.on ∈ D)) (hun : ∀ k ∈ D, listed.getD k true = false) (hj : j ∈ Region.ready md ops listed) : j ∉ D := by
  intro hjD
  obtain ⟨_, oj, hoj, hall⟩ := mem_ready.1 hj
  obtain ⟨ok, hok, e, he, hb, hon⟩ := hD j hjD
  have : ok = oj := Option.some.inj (hok.symm.trans hoj)
  subst this
  have h1 := hall e he hb
  have h0 : listed.getD e.on true = false := hon.elim (fun h => h ▸ hi) (fun h => hun _ h)
  have h2 := getD_both h0
  rcases Nat.lt_or_ge e.on listed.size with h' | h'
  · simp [h'] at h1 h2; rw [h2] at h1; cases h1
  · simp [Array.getElem?_eq_none h'] at h1

theorem wpAnyL_first {i : Nat} {oi : Oper} {v : Value} {D : List Nat} (hi : ops[i]? = some oi) (hsel : ∀ (j : Nat) (o : Oper) cs b, ops[j]? = some o → o.op ≠ .select cs b) (hnD : ∀ k, n ≤ k → k < ops.size → k ∈ D)
    (hD : ∀ k ∈ D, ∃ ok, ops[k]? = some ok ∧ ∃ e ∈ ok.after, Region.binds md e = true ∧ (e.on = i ∨ e.on ∈ D))
    (hQ : ∀ c a w, Q (.panic c) (a.put oi.dst v) w → Q (.panic c) a w) :
    ∀ (fuel : Nat) (listed : Array Bool) (a : Act) (w : World), (∀ k ∈ D, listed.getD k true = false) →
      (∀ j oj, ops[j]? = some oj → j ≠ i → listed.getD j true = false → (∀ e ∈ oj.after, Region.binds md e = true → e.on ≠ i) → oi.apart ops oj = true) →
      i ∈ Region.ready md ops listed → YieldsIf P ops S oi v a → S w →
      wpAnyL P md ops Q S n fuel (listed.setIfInBounds i true) (a.put oi.dst v) w → wpAnyL P md ops Q S n (fuel + 1) listed a w := by
  intro fuel
  induction fuel with
  | zero =>
    intro listed a w _ _ hr hy hS H
    refine ⟨fun h => (by rw [h] at hr; cases hr), fun j hj => ?_⟩
    by_cases hji : j = i
    · subst hji; exact hy.wpOp hi hS ⟨fun _ => hS, H⟩
    · have := ready_mono hj hji
      rw [H.1] at this
      cases this
  | succ fuel ih =>
    intro listed a w hun hfree hr hy hS H
    refine ⟨fun h => (by rw [h] at hr; cases hr), fun j hj => ?_⟩
    by_cases hji : j = i
    · subst hji; exact hy.wpOp hi hS ⟨fun _ => hS, H⟩
    · have h1 := H.2 j (ready_mono hj hji)
      obtain ⟨hjun, oj, hoj, hall⟩ := mem_ready.1 hj
      have hnot : ∀ e ∈ oj.after, Region.binds md e = true → e.on ≠ i := fun e he hb heq => by
        have h1 := hall e he hb
        have h0 := (mem_ready.1 hr).1
        rw [heq] at h1
        rcases Nat.lt_or_ge i listed.size with h' | h'
        · simp [h'] at h0 h1; rw [h0] at h1; cases h1
        · simp [Array.getElem?_eq_none h'] at h1
      have hjD : j ∉ D := late_not (mem_ready.1 hr).1 hD hun hj
      have hjs : j < ops.size := (Array.getElem?_eq_some_iff.1 hoj).1
      have hjn : j < n := by
        rcases Nat.lt_or_ge j n with h | h
        · exact h
        · exact absurd (hnD j h hjs) hjD
      have h2 := wpOp_putIf hoj (hfree j oj hoj hji hjun hnot) (fun cs b => hsel i oi cs b hi) (fun cs b => hsel j oj cs b hoj) hQ hy h1
      have hset : ∀ k, k ≠ j → listed.getD k true = false → (listed.setIfInBounds j true).getD k true = false := fun k hk h => by rw [getD_set_ne true (Ne.symm hk)]; exact h
      have hfree' : ∀ k ok, ops[k]? = some ok → k ≠ i → (listed.setIfInBounds j true).getD k true = false →
          (∀ e ∈ ok.after, Region.binds md e = true → e.on ≠ i) → oi.apart ops ok = true := fun k ok hk hki hun' hno => by
        refine hfree k ok hk hki ?_ hno
        by_cases hjk : j = k
        · subst hjk; exact hjun
        · rw [getD_set_ne true hjk] at hun'; exact hun'
      refine wpOp_mono (fun a' w' h3 => ⟨fun _ => h3.2.1 hjn, ih (listed.setIfInBounds j true) a' w' (fun k hk => hset k (fun e => hjD (e ▸ hk)) (hun k hk)) hfree' (ready_mono hr (Ne.symm hji)) h3.1 (h3.2.1 hjn) ?_⟩) h2
      rw [Array.setIfInBounds_comm _ _ hji]
      exact h3.2.2

/-- Take number i first: it yields v in every world that meets S; number n, behind which S need not hold, waits for it, be it through others. -/
theorem wpAnyL_take (i : Nat) {oi : Oper} {v : Value} {fuel : Nat} {listed : Array Bool} {a : Act} {w : World} (hi : ops[i]? = some oi)
    (hs : (Region.noSelect ops && Region.free md ops listed i && (Region.ready md ops listed).contains i && lateOk md ops listed i n (lateB md ops i)) = true)
    (hQ : ∀ c a w, Q (.panic c) (a.put oi.dst v) w → Q (.panic c) a w) (hg : Region.wanted oi (yielded ops a.tmps) = true) (hy : ∀ wx, S wx → (execOp a.eval oi).run P wx = .ok (.value v) wx) (hS : S w)
    (h : wpAnyL P md ops Q S n fuel (listed.setIfInBounds i true) (a.put oi.dst v) w) : wpAnyL P md ops Q S n (fuel + 1) listed a w := by
  simp only [Bool.and_eq_true] at hs
  obtain ⟨⟨⟨hsel, hfr⟩, hrd⟩, hlate⟩ := hs
  unfold lateOk at hlate
  simp only [Bool.and_eq_true, List.all_eq_true] at hlate
  refine wpAnyL_first (D := lateB md ops i) hi (Region.noSelect_spec hsel) (fun k h1 h2 => ?_) (fun k hk => ?_) hQ fuel listed a w (fun k hk => ?_) (Region.free_spec hi hfr) (by simpa using hrd) (.inl ⟨hg, hy⟩) hS h
  · have := hlate.1 k (by simpa using h2)
    simp only [Bool.or_eq_true, decide_eq_true_eq, List.contains_iff_mem] at this
    exact this.elim (fun h => absurd h (by omega)) id
  · have := (hlate.2 k hk).1
    split at this
    · rename_i ok hok
      obtain ⟨e, he, hb⟩ := Array.any_eq_true'.1 this
      simp only [Bool.and_eq_true, Bool.or_eq_true, beq_iff_eq] at hb
      exact ⟨ok, hok, e, he, hb.1, hb.2.imp id (fun h => by simpa using h)⟩
    · cases this
  · have := (hlate.2 k hk).2
    simpa using this

/-- Number i alone may come up. -/
theorem wpAnyL_one (i : Nat) {oi : Oper} {fuel : Nat} {listed : Array Bool} {a : Act} {w : World} (hi : ops[i]? = some oi) (hr : Region.ready md ops listed = [i]) (hg : Region.wanted oi (yielded ops a.tmps) = true)
    (h : ∀ K : Act → World → Prop, (∀ a' w', (i < n → S w') ∧ wpAnyL P md ops Q S n fuel (listed.setIfInBounds i true) a' w' → K a' w') → oi.wp P a w K Q) : wpAnyL P md ops Q S n (fuel + 1) listed a w := by
  refine ⟨fun h0 => (by rw [hr] at h0; cases h0), fun j hj => ?_⟩
  rw [hr] at hj
  simp only [List.mem_singleton] at hj
  subst hj
  unfold wpOp
  simp only [hi, hg, if_true]
  exact .inl (h _ (fun _ _ h => h))

theorem wpAnyL_done {listed : Array Bool} {a : Act} {w : World} (hr : Region.ready md ops listed = []) (h : Q .normal a w) : ∀ fuel, wpAnyL P md ops Q S n fuel listed a w
  | 0 => ⟨hr, h⟩
  | _ + 1 => ⟨fun _ => h, by rw [hr]; simp⟩

theorem wp_region_L {id : Nat} {a : Act} {w : World} (S : World → Prop) (n : Nat) (hm : P.follows .mixedOrders = true)
    (h : wpAnyL P .any ops Q S n ops.size (Array.replicate ops.size false) a w.drew) : (Code.region id ops true).wp P Q a w :=
  wp_region_any hm (wpAny_of_L _ _ _ _ h)

end
end Dp
end Go.Proofs.YtdipojfngdceoabGreatDoor

/- More on regions that draw their order: behind the one operation that writes. It holds of every program. -/
namespace Go.Proofs.YtdipojfngdceoabGreatDoor
namespace Dp
open Go

section
variable {P : Program} {md : Region.Mode} {ops : Array Oper} {Q : Exit → Act → World → Prop} {S : World → Prop} {n : Nat}

/-- Once all numbers below n are listed, any order will do. -/
theorem wpAnyL_late (fuel : Nat) : ∀ (listed : Array Bool) (a : Act) (w : World), (∀ k, k < n → listed.getD k true = true) → wpAny P md ops Q fuel listed a w → wpAnyL P md ops Q S n fuel listed a w := by
  induction fuel with
  | zero => exact fun _ _ _ _ h => h
  | succ fuel ih =>
    intro listed a w hl h
    refine ⟨h.1, fun i hi => wpOp_mono (fun a' w' h' => ⟨fun hlt => ?_, ih _ a' w' (fun k hk => ?_) h'⟩) (h.2 i hi)⟩
    · have h0 := (mem_ready.1 hi).1
      rw [hl i hlt] at h0
      exact absurd h0 (by decide)
    · by_cases e : i = k
      · subst e
        have h0 := (mem_ready.1 hi).1
        rw [hl i hk] at h0
        exact absurd h0 (by decide)
      · rw [getD_set_ne true e]; exact hl k hk
theorem wpAnyL_rest {fuel : Nat} {listed : Array Bool} {a : Act} {w : World} (hl : ((List.range n).all fun k => listed.getD k true) = true) (h : wpAny P md ops Q fuel listed a w) : wpAnyL P md ops Q S n fuel listed a w :=
  wpAnyL_late fuel listed a w (fun k hk => by simpa using List.all_eq_true.1 hl k (by simpa using hk)) h
/-- A pure number is taken first. -/
theorem wpAny_pure (i : Nat) {oi : Oper} {v : Value} {fuel : Nat} {listed : Array Bool} {a : Act} {w : World} (hi : ops[i]? = some oi)
    (hs : (Region.noSelect ops && Region.free md ops listed i && (Region.ready md ops listed).contains i) = true)
    (hQ : ∀ c a w, Q (.panic c) (a.put oi.dst v) w → Q (.panic c) a w) (hy : Yields P ops oi v a)
    (h : wpAny P md ops Q fuel (listed.setIfInBounds i true) (a.put oi.dst v) w) : wpAny P md ops Q (fuel + 1) listed a w := by
  simp only [Bool.and_eq_true] at hs
  exact wpAny_take hi hs.1.1 hs.1.2 hs.2 hQ hy h

/-- What is left comes one by one. -/
theorem wpAny_tail (k : Nat) {fuel : Nat} {listed : Array Bool} {a : Act} {w : World} (hf : fuel = ops.size - k) (hB : Region.seqB md ops (ops.size - k) k listed = true) (h : wpList P ops Q (ops.toList.drop k) a w) : wpAny P md ops Q fuel listed a w := by
  have hl : (ops.toList.drop k).length = ops.size - k := by simp
  rw [hf, ← hl]
  rw [← hl] at hB
  exact wpAny_of_seq _ k listed a w (fun j => by simp) hB h

end
end Dp
end Go.Proofs.YtdipojfngdceoabGreatDoor

/- The proof of a cell, as a plain function. -/
namespace Go.Proofs.YtdipojfngdceoabGreatDoor
open Go.RowKit

namespace Dp
/-- Where the cells beside those of a cell's k-th layer begin. -/
def sib (n k : Nat) : Nat := if n / 2 ^ k % 2 = 0 then n / 2 ^ k * 2 ^ k + 2 ^ k else n / 2 ^ k * 2 ^ k - 2 ^ k
def proofTo (cells : List Int) (n : Nat) : Nat → List UInt8
  | 0 => four (cells.getD n 0)
  | k + 1 => proofTo cells n k ++ two (digest cells (sib n k) k)
def proof (cells : List Int) (n : Nat) : List UInt8 := proofTo cells n 8
theorem proofTo_length (cells : List Int) (n k : Nat) : (proofTo cells n k).length = 4 + 2 * k := by
  induction k with
  | zero => rfl
  | succ k ih => unfold proofTo; rw [List.length_append, ih, two_length]; omega
theorem sib_bd (n k : Nat) (hn : n < 256) (hk : k < 8) : sib n k + 2 ^ k ≤ 256 := by
  unfold sib
  rcases (by omega : k = 0 ∨ k = 1 ∨ k = 2 ∨ k = 3 ∨ k = 4 ∨ k = 5 ∨ k = 6 ∨ k = 7) with rfl | rfl | rfl | rfl | rfl | rfl | rfl | rfl <;> simp only [Nat.reducePow] <;> split <;> omega
theorem pow_bd (k : Nat) (hk : k < 8) : 1 ≤ 2 ^ k ∧ 2 ^ k ≤ 128 := by
  rcases (by omega : k = 0 ∨ k = 1 ∨ k = 2 ∨ k = 3 ∨ k = 4 ∨ k = 5 ∨ k = 6 ∨ k = 7) with rfl | rfl | rfl | rfl | rfl | rfl | rfl | rfl <;> simp
end Dp

end Go.Proofs.YtdipojfngdceoabGreatDoor

/- A struct that is built of two parts. It holds of every program. -/
namespace Go.Proofs.YtdipojfngdceoabGreatDoor
open Go.RowKit
namespace Dp
theorem wpList_build_two {P : Program} {w : World} {ops : Array Oper} {rest : List Oper} {o : Oper} {a : Act} {Q : Exit → Act → World → Prop} (hgd : o.guard = none) (t : TypeId) (i j : Nat) (x y : Operand) (ho : o.op = .build t #[(i, x), (j, y)]) (u1 u2 v : Value) (hx : a.eval x = u1) (hy : a.eval y = u2)
    (hrun : (Instr.build t #[(i, u1), (j, u2)]).run P w = .ok v w) (h : Hid True → wpList P ops Q rest (a.put o.dst v) w) : wpList P ops Q (o :: rest) a w := by
  refine wpList_plain hgd fun K hK => ?_
  have e : (execOp a.eval o).run P w = .ok (.value v) w := by
    unfold execOp
    simp only [ho, List.map_toArray, List.map_cons, List.map_nil, hx, hy, Sem.run_bind, hrun, Result.andThen_ok, Sem.run_pure]
  unfold Oper.wp
  rw [e]
  exact hK _ _ (h trivial)
theorem wpList_binop {P : Program} {w : World} {ops : Array Oper} {rest : List Oper} {o : Oper} {a : Act} {Q : Exit → Act → World → Prop} (hgd : o.guard = none) (b : BinOp) (t t2 : TypeId) (x y : Operand) (ho : o.op = .binOp b t x y t2) (u1 u2 v : Value) (hx : a.eval x = u1) (hy : a.eval y = u2)
    (hgu : eqGuard b t x y u1 u2 = pure ()) (hrun : (binOp b t u1 u2).run P w = .ok v w) (h : Hid True → wpList P ops Q rest (a.put o.dst v) w) : wpList P ops Q (o :: rest) a w := by
  refine wpList_plain hgd fun K hK => ?_
  have e : (execOp a.eval o).run P w = .ok (.value v) w := by
    unfold execOp
    simp [ho, hx, hy, hgu, hrun, Result.andThen]
  unfold Oper.wp
  rw [e]
  exact hK _ _ (h trivial)
end Dp
end Go.Proofs.YtdipojfngdceoabGreatDoor

/- A call by an interface: the method's own function is entered. It holds of every program. -/
namespace Go.Proofs.YtdipojfngdceoabGreatDoor
namespace Dp
open Go

theorem wp_invoke {P : Program} {w : World} {o : Oper} {a : Act} {K : Act → World → Prop} {Q : Exit → Act → World → Prop} (c : Call) (recv : Operand) (name : String) (ho : o.op = .call c) (hc : c.callee = .invoke recv name)
    (T : TypeId) (x : Value) (hr : a.eval recv = .iface T x) (vals : Array Value) (hv : c.args.map a.eval = vals) (f : FuncId) (fargs : Array Value)
    (hm : ∀ wx, (callMethod (.iface T x) name vals).run P wx = .ok (.enter f fargs) wx)
    (h : Calls P f fargs w fun e w'' => match e with
      | .returned v => K (a.put o.dst v) w''
      | .panicked chain => Q (.panic chain) a w''
      | .outgrown => LetsOut Q) : o.wp P a w K Q := by
  have e1 : (execOp a.eval o).run P w = .ok (.enter f fargs) w := by
    unfold execOp
    simp only [ho, resolve, hc, hr, hv, Sem.run_bind, Sem.run_pure, Result.andThen_ok, invoke]
    have e2 : (#[Value.iface T x] ++ vals)[0]? = some (.iface T x) := by rw [Array.getElem?_append_left (show 0 < 1 by omega)]; rfl
    have e3 : (#[Value.iface T x] ++ vals).extract 1 (#[Value.iface T x] ++ vals).size = vals := by
      apply Array.ext'; simp
    rw [e2, e3]
    exact hm w
  unfold Oper.wp
  rw [e1, Oper.upon_enter]
  refine h.mono ?_
  intro e w'' he
  cases e <;> exact he

theorem wpList_invoke {P : Program} {w : World} {ops : Array Oper} {rest : List Oper} {o : Oper} {a : Act} {Q : Exit → Act → World → Prop} (hgd : o.guard = none) (c : Call) (recv : Operand) (name : String) (ho : o.op = .call c) (hc : c.callee = .invoke recv name)
    (T : TypeId) (x : Value) (hr : a.eval recv = .iface T x) (vals : Array Value) (hv : c.args.map a.eval = vals) (f : FuncId) (fargs : Array Value)
    (hm : ∀ wx, (callMethod (.iface T x) name vals).run P wx = .ok (.enter f fargs) wx)
    (h : Calls P f fargs w fun e w'' => match e with
      | .returned v => wpList P ops Q rest (a.put o.dst v) w''
      | .panicked chain => Q (.panic chain) a w''
      | .outgrown => LetsOut Q) : wpList P ops Q (o :: rest) a w := by
  refine wpList_plain hgd fun K hK => ?_
  refine wp_invoke c recv name ho hc T x hr vals hv f fargs hm (h.mono ?_)
  intro e w'' he
  cases e
  · exact hK _ _ he
  · exact he
  · exact he

/-- A call of a function value. -/
theorem wp_callFn {P : Program} {w : World} {o : Oper} {a : Act} {K : Act → World → Prop} {Q : Exit → Act → World → Prop} (c : Call) (fo : Operand) (ho : o.op = .call c) (hc : c.callee = .value fo)
    (f : FuncId) (hf : a.eval fo = .func (.func f) #[] #[]) (vals : Array Value) (hv : c.args.map a.eval = vals)
    (hm : (callFunc f vals).run P w = .ok (.enter f vals) w)
    (h : Calls P f vals w fun e w'' => match e with
      | .returned v => K (a.put o.dst v) w''
      | .panicked chain => Q (.panic chain) a w''
      | .outgrown => LetsOut Q) : o.wp P a w K Q := by
  have e1 : (execOp a.eval o).run P w = .ok (.enter f vals) w := by
    unfold execOp
    simp only [ho, resolve, hc, hf, hv, Deferred.ofValue, Sem.run_bind, Sem.run_pure, Result.andThen_ok, invoke, Array.empty_append, Array.append_empty]
    exact hm
  unfold Oper.wp
  rw [e1, Oper.upon_enter]
  refine h.mono ?_
  intro e w'' he
  cases e <;> exact he

end Dp
end Go.Proofs.YtdipojfngdceoabGreatDoor

/- What each instruction without a cell or a source comes to. No program is named here. -/
namespace Go.Proofs.YtdipojfngdceoabGreatDoor
namespace Dp

theorem perform_still {σ : Type} (M : Memo σ) (s : Cs) (m : σ) (i : Ins) (h13 : i.op ≠ 13) (h14 : i.op ≠ 14) (h19 : i.op ≠ 19) : perform M s m i = some ((still s i).1, m, (still s i).2) := by
  unfold perform; rw [if_neg h13, if_neg h14, if_neg h19]
theorem still_alu (s : Cs) (i : Ins) (v : Int) (h1 : 1 ≤ i.op) (h12 : i.op ≤ 12) (h10 : i.op ≠ 10) (hv : aluOf s i = v) : still s i = (putted s i v, 0) := by
  rw [← hv]
  exact still_put s i (by unfold isPlain; simp; omega) (fun h => h10 h.1) (by omega) (by omega)
theorem still_div (s : Cs) (i : Ins) (h : i.op = 10) (hz : s.reg i.c ≠ 0) : still s i = (putted s i (s.reg i.b / s.reg i.c), 0) := by
  have e : aluOf s i = s.reg i.b / s.reg i.c := by simp [aluOf, h]
  rw [← e]
  exact still_put s i (by rw [h]; rfl) (fun h => hz h.2) (by omega) (by omega)
theorem still_div0 (s : Cs) (i : Ins) (h : i.op = 10) (hz : s.reg i.c = 0) : still s i = (s, 4) := by
  unfold still plain; rw [h, hz]; simp [isPlain]
theorem still_halt (s : Cs) (i : Ins) (hl : s.regs.length = 8) (hi : i.Ok) (h : i.op = 0) : still s i = ({ s with over := true, code := s.reg i.a }, 0) := by
  have e : aluOf s i = s.reg i.a := by simp [aluOf, h]
  rw [still_of s i (by rw [h]; rfl) (fun h' => by omega), e, set_self s hl i.a hi.a]
  simp [nextOf, h]
theorem still_same (s : Cs) (i : Ins) (hl : s.regs.length = 8) (hi : i.Ok) (h : i.op = 15) : still s i = (jumped s i (s.reg i.a == s.reg i.b), 0) := by
  have e : aluOf s i = s.reg i.a := by simp [aluOf, h]
  rw [still_of s i (by rw [h]; rfl) (fun h' => by omega), e, set_self s hl i.a hi.a]
  simp [nextOf, h, jumped]
theorem still_other (s : Cs) (i : Ins) (hl : s.regs.length = 8) (hi : i.Ok) (h : i.op = 16) : still s i = (jumped s i (s.reg i.a != s.reg i.b), 0) := by
  have e : aluOf s i = s.reg i.a := by simp [aluOf, h]
  rw [still_of s i (by rw [h]; rfl) (fun h' => by omega), e, set_self s hl i.a hi.a]
  simp [nextOf, h, jumped]
theorem still_under (s : Cs) (i : Ins) (hl : s.regs.length = 8) (hi : i.Ok) (h : i.op = 17) : still s i = (jumped s i (s.reg i.a < s.reg i.b), 0) := by
  have e : aluOf s i = s.reg i.a := by simp [aluOf, h]
  rw [still_of s i (by rw [h]; rfl) (fun h' => by omega), e, set_self s hl i.a hi.a]
  simp [nextOf, h, jumped]
theorem still_call (s : Cs) (i : Ins) (h : i.op = 18) : still s i = ({ s with pc := wrap (s.reg i.b + i.n), regs := s.regs.set i.a.toNat (wrap (s.pc + 1)) }, 0) := by
  have e : aluOf s i = wrap (s.pc + 1) := by simp [aluOf, h]
  rw [still_of s i (by rw [h]; rfl) (fun h' => by omega), e]
  simp [nextOf, h]
theorem still_none (s : Cs) (i : Ins) (h : 20 ≤ i.op) : still s i = (s, 2) := by
  have e : isPlain i.op = false := by unfold isPlain; simp; omega
  unfold still plain; rw [e]; simp

end Dp
end Go.Proofs.YtdipojfngdceoabGreatDoor

/- A new slice with room behind it. It holds of every program. -/
namespace Go.Proofs.YtdipojfngdceoabGreatDoor
namespace Dp
open Go.RowKit

theorem wpList_make_cap {P : Program} (w : World) {ops : Array Oper} {rest : List Oper} {o : Oper} {a : Act} {Q : Exit → Act → World → Prop}
    (hg : o.guard = none) (l c : Operand) (t : TypeId) (hop : o.op = Op.makeSlice t l c)
    (e : TypeId) (z : Value) (bytes : Nat) (h1 : P.underlying t = some (.slice e)) (h2 : (P.info? e).map (fun i => (i.zero, i.size, i.bytes)) = some (some z, 1, bytes)) (hz : z.cells = #[z])
    (kl kc : IntKind) (C : Int) (n : Nat) (hl : a.eval l = .int kl 0) (hc : a.eval c = .int kc C) (hC : C = (n : Int)) (b2 : bytes * n ≤ 281474976710656) (b3 : n ≤ maxLen)
    (hK : ∀ v w', Own w' e v [] → v.ownBlock = some w.heap.size → w'.heap.size = w.heap.size + 1 → Keeps (fun _ => False) w w' → wpList P ops Q rest (a.put o.dst v) w') :
    wpList P ops Q (o :: rest) a w := by
  refine wpList_plain hg fun K hK' => ?_
  obtain ⟨i, hi, hz0, hz1, hz2⟩ := info_parts h2
  subst hC
  unfold maxLen at b3
  have hrun := run_make (P := P) w t e i z h1 hi hz0 kl kc 0 (n : Int) (by omega) (by omega) (by rw [hz2, ← Int.natCast_mul]; omega) (by omega)
  rw [hz1, hz, Int.toNat_natCast, Nat.mul_one, madeCells_one] at hrun
  unfold Oper.wp
  simp only [execOp, hop, hl, hc, hrun, Result.andThen, Sem.run_bind]
  refine hK' _ _ (hK _ _ (.inr ⟨w.heap.size, List.replicate n z, ?_, ?_, ?_⟩) rfl (by simp) ((Keeps.refl _ _).alloc _))
  · simp
  · exact Row.allocNew w e (List.replicate n z)
  · simp [maxLen]; omega
end Dp
end Go.Proofs.YtdipojfngdceoabGreatDoor

/- What 'returned' does with a row that is as 'lent' made it: it answers true, turns the row over, and books it. -/
namespace Go.Proofs.YtdipojfngdceoabGreatDoor
open Go.RowKit Dp

theorem infoBytes : (Tryz.prog.info? 35).map (fun i => (i.zero, i.size, i.bytes)) = some (some (.slice none 0 0), 1, 24) := by kernel_rfl

namespace Dp
/-- 'string(row[:n])' gives the text back. -/
theorem vals_cell {w : World} {b : Nat} {e : TypeId} {l r : List UInt8} (hb : Row w b e (vals (l ++ r))) (j : Nat) (hj : j < l.length) : w.cell? ((⟨b, 0, none⟩ : Addr).add j) = some (.int .u8 (l[j].toNat : Int)) := by
  have h := hb.cell j
  simp only [vals, List.map_append] at h
  rw [List.getElem?_append_left (by simpa using hj)] at h
  rw [add_zero_off, h]; simp [hj]
end Dp

set_option maxHeartbeats 800000 in
theorem returned_any (s : ByteArray) (w : World) (N b : Nat) (v0 v1 v2 v3 v4 v5 : Value) (xs : List Value) (hs : s.size ≤ 16777216) (hk : xs.length ≤ 16777216)
    (hb : Row w b 5 (vals (s.data.toList ++ [252, 253]))) (hN : Row w N 56 [v0, v1, v2, v3, v4, v5]) (hown : Own w 35 v2 xs) :
    Calls Tryz.prog 34 #[.pointer (some ⟨N, 0, none⟩), .slice (some ⟨b, 0, none⟩) (s.size + 2) (s.size + 2), .string s] w fun e w' => e = .returned (.bool true) ∧
      Row w' b 5 (List.replicate (s.size + 2) (.int .u8 251)) ∧ Keeps (fun j => j = b ∨ j = N ∨ v2.ownBlock = some j) w w' ∧
      ∃ v2', Row w' N 56 [v0, v1, v2', v3, v4, v5] ∧ Own w' 35 v2' (xs ++ [.slice (some ⟨b, 0, none⟩) (s.size + 2) (s.size + 2)]) ∧ (v2'.ownBlock = v2.ownBlock ∨ ∀ g, v2'.ownBlock = some g → w.heap.size ≤ g) := by
  have hconv := run_convert_bytes_back (P := Tryz.prog) w 35 9 5 ⟨b, 0, none⟩ (s.size + 2) s.data.toList Tryz.underlying35 Tryz.underlying5 Tryz.underlying9 (vals_cell hb)
  have el : s.data.toList.length = s.size := by simp
  rw [el] at hconv
  have c0 : w.cell? ⟨b, s.size, none⟩ = some (.int .u8 252) := by rw [hb.cell]; simp [vals]
  have c1 : w.cell? ⟨b, s.size + 1, none⟩ = some (.int .u8 253) := by rw [hb.cell]; simp [vals]
  clear el
  go_enter Tryz.func34, Tryz.ntmps34
  go_wp2
  clear hconv c0 c1
  go_loopw [9] (fun i wr => ∃ j : Nat, j ≤ s.size + 2 ∧ i = .int .i64 j ∧ Row wr b 5 (List.replicate j (.int .u8 251) ++ (vals (s.data.toList ++ [252, 253])).drop j) ∧ Keeps (fun q => q = b) w wr) (fun i _ => s.size + 2 - (intOf i).toNat)
  case atStart => exact ⟨0, Nat.zero_le _, rfl, by simpa using hb, Keeps.refl _ _⟩
  case round =>
    obtain ⟨j, hj, rfl, rb, kb⟩ := hrel
    by_cases hlt : j < s.size + 2
    · have hlen : (vals (s.data.toList ++ [252, 253])).length = s.size + 2 := by simp [vals]
      obtain ⟨u, cj⟩ : ∃ u, wr.cell? ⟨b, j, none⟩ = some u := ⟨_, fill_cell rb (by omega)⟩
      have fj := rb.frozen j
      have RB : Hid (Row (wr.setCell ⟨b, j, none⟩ (.int .u8 251)) b 5 (List.replicate (j + 1) (.int .u8 251) ++ (vals (s.data.toList ++ [252, 253])).drop (j + 1))) := by
        have h := rb.set j (.int .u8 251)
        rw [fill_step _ _ _ (by omega)] at h
        exact h
      clear hlen
      go_wp2
      go_roundw
      case rel => exact ⟨j + 1, by omega, by go_num, RB.out, kb.setCell (.inr rfl) _⟩
      case measure => simp [intOf]; omega
    · obtain rfl : j = s.size + 2 := by omega
      rw [List.drop_eq_nil_of_le (by simp [vals]), List.append_nil] at rb
      have hNb : N ≠ b := hN.ne hb (by decide)
      have hob := hown.ne hb (by decide)
      have hoN := hown.ne hN (by decide)
      have hN1 := hN.keep kb hNb
      have hown1 := hown.keep kb hob
      have cN : wr.cell? ⟨N, 2, none⟩ = some v2 := hN1.cellAt 2 (by simp)
      have zw := hN1.lt
      clear hN hown hb hlt
      go_wp2_with (at_builtin; refine wpList_append_Own rfl _ _ 51 rfl 35 (.slice none 0 0) 24 Tryz.underlying51 infoBytes rfl v2 xs rfl (hown1.alloc _) _ 1 1 [.slice (some ⟨b, 0, none⟩) (s.size + 2) (s.size + 2)] rfl rfl (cell_one_new _ _ _) (fun x hx => by simp at hx; subst hx; rfl) (by omega) (by unfold maxLen; omega) (by omega) ?_)
      intro v2' w2 own2 k2 sz2
      have k3 : Keeps (fun k => v2.ownBlock = some k) wr w2 := ((Keeps.refl _ _).alloc _).next k2 (fun _ _ h => h)
      have hN2 := hN1.keep k3 (fun e => hoN N e rfl)
      have cN2 : w2.cell? ⟨N, 2, none⟩ = some v2 := hN2.cellAt 2 (by simp)
      have fN2 := hN2.frozen 2
      have own3 : ∃ ad cap, v2' = .slice ad (xs.length + 1) cap := by simpa using own2.isSlice
      obtain ⟨ad3, cap3, e3⟩ := own3
      have E3 : Hid (v2' = .slice ad3 (xs.length + 1) cap3) := e3
      rw [e3]
      clear e3
      go_wp2
      go_ret
      rw [← E3.out]
      have hb2 := rb.keep k3 (fun e => hob b e rfl)
      refine ⟨rfl, hb2.setOther _ _ (Ne.symm hNb), ?_, v2', hN2.set 2 v2', ?_, ?_⟩
      · refine Keeps.setCell ?_ (.inr (.inr (.inl rfl))) _
        exact (kb.mono (fun k _ e => .inl e)).next k3 (fun k _ e => .inr (.inr e))
      · refine own2.keep ((Keeps.refl (fun k => k = N) w2).setCell (.inr rfl) _) ?_
        intro g hg e
        subst e
        exact own2.ne hN2 (by decide) g hg rfl
      · rcases sz2.out with h | h
        · exact .inl h.1
        · refine .inr fun g hg => ?_
          rw [h.1] at hg
          have := kb.size
          simp at hg
          omega

end Go.Proofs.YtdipojfngdceoabGreatDoor
