/- Steps on the way: OwnBoth, BuildTwo, PureProof, PureMerkle. -/
import Derived.Test.YtdipojfngdceoaaDoorPack37
import Derived.Test.YtdipojfngdceoaaDoorPack38
import Derived.Test.YtdipojfngdceoaaDoorPack43
import Derived.Laws.OwnMore
import Derived.WalkKit
import Derived.WalkSpells
/- append of a slice of the call's own onto another, be it empty. It holds of every program. -/
namespace Go.Proofs.YtdipojfngdceoaaDoor
namespace Dp
open Go.RowKit

theorem run_append_Own0 {P : Program} (w : World) (t ty e : TypeId) (i : TypeInfo) (ht : P.underlying t = some (.slice e)) (hi : P.info? e = some i) (v : Value) (xs : List Value) (hown : Own w e v xs) (ad : Option Addr) (c : Nat) :
    (Builtin.append_ #[t, t] ty #[v, .slice ad 0 c]).run P w = .ok v w := by
  rcases hown with ⟨rfl, rfl⟩ | ⟨g, tail, rfl, hr, hm⟩
  · cases ad with
    | none => simp [Builtin.append_, run_underlying ht, sizeOf, typeInfo, hi, Builtin.lenOf, Builtin.firstCells]
    | some a => simp [Builtin.append_, run_underlying ht, sizeOf, typeInfo, hi, Builtin.lenOf, Builtin.firstCells, loadCells, loadCellsFrom, Result.andThen]
  · cases ad with
    | none => simp [Builtin.append_, run_underlying ht, sizeOf, typeInfo, hi, Builtin.lenOf, Builtin.firstCells, storeCells]
    | some a => simp [Builtin.append_, run_underlying ht, sizeOf, typeInfo, hi, Builtin.lenOf, Builtin.firstCells, storeCells, loadCells, loadCellsFrom, Result.andThen]

theorem run_append_Both {P : Program} (w : World) (t ty e : TypeId) (z : Value) (bytes : Nat) (ht : P.underlying t = some (.slice e)) (hinfo : (P.info? e).map (fun i => (i.zero, i.size, i.bytes)) = some (some z, 1, bytes)) (hz1 : z.cells.size = 1)
    (v : Value) (xs : List Value) (hown : Own w e v xs) (vx : Value) (news : List Value) (hx : Own w e vx news) (h1 : ∀ u ∈ news, u.oneCell' = true) (h63 : xs.length + news.length ≤ maxLen) (hbytes : (xs.length + news.length) * bytes ≤ 140737488355328) :
    ∃ v' w', (Builtin.append_ #[t, t] ty #[v, vx]).run P w = .ok v' w' ∧ Own w' e v' (xs ++ news) ∧ Keeps (fun k => v.ownBlock = some k) w w' ∧
      (v'.ownBlock = v.ownBlock ∧ w'.heap.size = w.heap.size ∨ v'.ownBlock = some w.heap.size ∧ w'.heap.size = w.heap.size + 1) := by
  by_cases hn : news = []
  · subst hn
    obtain ⟨i, hi, _, _, _⟩ := info_parts hinfo
    obtain ⟨ad, cap, hv⟩ := hx.isSlice
    refine ⟨v, w, ?_, by simpa using hown, Keeps.refl _ _, .inl ⟨rfl, rfl⟩⟩
    rw [hv]
    exact run_append_Own0 w t ty e i ht hi v xs hown ad cap
  · rcases hx with ⟨_, h⟩ | ⟨g, tail, rfl, hr, hm⟩
    · exact absurd h hn
    · refine run_append_Own w t ty e z bytes ht hinfo hz1 v xs hown ⟨g, 0, none⟩ _ news (fun j u hj => ?_) h1 (by cases news with | nil => exact absurd rfl hn | cons a b => simp) h63 hbytes
      have hlt : j < news.length := (List.getElem?_eq_some_iff.1 hj).1
      rw [add_zero_off, hr.cell, List.getElem?_append_left hlt]; exact hj

theorem wpList_append_Both {P : Program} {w : World} {ops : Array Oper} {rest : List Oper} {o : Oper} {a : Act} {Q : Exit → Act → World → Prop} (hgd : o.guard = none) (s x : Operand) (t : TypeId)
    (ho : o.op = .call { callee := .builtin .append, args := #[s, x], argTypes := #[t, t] }) (e : TypeId) (z : Value) (bytes : Nat) (ht : P.underlying t = some (.slice e)) (hinfo : (P.info? e).map (fun i => (i.zero, i.size, i.bytes)) = some (some z, 1, bytes)) (hz1 : z.cells.size = 1)
    (v : Value) (xs : List Value) (hs : a.eval s = v) (hown : Own w e v xs) (vx : Value) (news : List Value) (hxv : a.eval x = vx) (hx : Own w e vx news) (h1 : ∀ u ∈ news, u.oneCell' = true) (h63 : xs.length + news.length ≤ maxLen) (hbytes : (xs.length + news.length) * bytes ≤ 140737488355328)
    (h : ∀ v' w', Own w' e v' (xs ++ news) → Keeps (fun k => v.ownBlock = some k) w w' → Hid (v'.ownBlock = v.ownBlock ∧ w'.heap.size = w.heap.size ∨ v'.ownBlock = some w.heap.size ∧ w'.heap.size = w.heap.size + 1) → wpList P ops Q rest (a.put o.dst v') w') :
    wpList P ops Q (o :: rest) a w := by
  refine wpList_plain hgd fun K hK => ?_
  obtain ⟨v', w', hr, h2, h3, h4⟩ := run_append_Both (P := P) w t o.type e z bytes ht hinfo hz1 v xs hown vx news hx h1 h63 hbytes
  unfold Oper.wp execOp
  simp only [ho, resolve, invoke, builtin, Sem.run_bind, Sem.run_pure, Result.andThen_ok, List.map_toArray, List.map_cons, List.map_nil, hs, hxv, hr]
  exact hK _ _ (h v' w' h2 h3 h4)
end Dp
end Go.Proofs.YtdipojfngdceoaaDoor

/- A struct that is built of two parts. It holds of every program. -/
namespace Go.Proofs.YtdipojfngdceoaaDoor
open Go.RowKit
namespace Dp
theorem wpList_build_two {P : Program} {w : World} {ops : Array Oper} {rest : List Oper} {o : Oper} {a : Act} {Q : Exit → Act → World → Prop} (hgd : o.guard = none) (t : TypeId) (i j : Nat) (x y : Operand) (ho : o.op = .build t #[(i, x), (j, y)]) (u1 u2 v : Value) (hx : a.eval x = u1) (hy : a.eval y = u2)
    (hrun : (Instr.build t #[(i, u1), (j, u2)]).run P w = .ok v w) (h : Hid True → wpList P ops Q rest (a.put o.dst v) w) : wpList P ops Q (o :: rest) a w := by
  refine wpList_plain hgd fun K hK => ?_
  have e : (execOp a.eval o).run P w = .ok (.value v) w := by
    unfold execOp
    simp only [ho, List.map_toArray, List.map_cons, List.map_nil, hx, hy, Sem.run_bind, hrun, Result.andThen_ok, Sem.run_pure]
  unfold Oper.wp
  rw [e]
  exact hK _ _ (h trivial)
theorem wpList_binop {P : Program} {w : World} {ops : Array Oper} {rest : List Oper} {o : Oper} {a : Act} {Q : Exit → Act → World → Prop} (hgd : o.guard = none) (b : BinOp) (t t2 : TypeId) (x y : Operand) (ho : o.op = .binOp b t x y t2) (u1 u2 v : Value) (hx : a.eval x = u1) (hy : a.eval y = u2)
    (hgu : eqGuard b t x y u1 u2 = pure ()) (hrun : (binOp b t u1 u2).run P w = .ok v w) (h : Hid True → wpList P ops Q rest (a.put o.dst v) w) : wpList P ops Q (o :: rest) a w := by
  refine wpList_plain hgd fun K hK => ?_
  have e : (execOp a.eval o).run P w = .ok (.value v) w := by
    unfold execOp
    simp [ho, hx, hy, hgu, hrun, Result.andThen]
  unfold Oper.wp
  rw [e]
  exact hK _ _ (h trivial)
end Dp
end Go.Proofs.YtdipojfngdceoaaDoor

/- The proof of a cell, as a plain function. -/
namespace Go.Proofs.YtdipojfngdceoaaDoor
open Go.RowKit

namespace Dp
/-- Where the cells beside those of a cell's k-th layer begin. -/
def sib (n k : Nat) : Nat := if n / 2 ^ k % 2 = 0 then n / 2 ^ k * 2 ^ k + 2 ^ k else n / 2 ^ k * 2 ^ k - 2 ^ k
def proofTo (cells : List Int) (n : Nat) : Nat → List UInt8
  | 0 => four (cells.getD n 0)
  | k + 1 => proofTo cells n k ++ two (digest cells (sib n k) k)
def proof (cells : List Int) (n : Nat) : List UInt8 := proofTo cells n 8
theorem proofTo_length (cells : List Int) (n k : Nat) : (proofTo cells n k).length = 4 + 2 * k := by
  induction k with
  | zero => rfl
  | succ k ih => unfold proofTo; rw [List.length_append, ih, two_length]; omega
theorem sib_bd (n k : Nat) (hn : n < 256) (hk : k < 8) : sib n k + 2 ^ k ≤ 256 := by
  unfold sib
  rcases (by omega : k = 0 ∨ k = 1 ∨ k = 2 ∨ k = 3 ∨ k = 4 ∨ k = 5 ∨ k = 6 ∨ k = 7) with rfl | rfl | rfl | rfl | rfl | rfl | rfl | rfl <;> simp only [Nat.reducePow] <;> split <;> omega
theorem pow_bd (k : Nat) (hk : k < 8) : 1 ≤ 2 ^ k ∧ 2 ^ k ≤ 128 := by
  rcases (by omega : k = 0 ∨ k = 1 ∨ k = 2 ∨ k = 3 ∨ k = 4 ∨ k = 5 ∨ k = 6 ∨ k = 7) with rfl | rfl | rfl | rfl | rfl | rfl | rfl | rfl <;> simp
end Dp

end Go.Proofs.YtdipojfngdceoaaDoor

/- A cell's proof leads to the root, and with another word to the root of the cells that have it. No program is named here. -/
namespace Go.Proofs.YtdipojfngdceoaaDoor
open Go.RowKit

namespace Dp
theorem numTo_append (l r : List UInt8) (a : Nat) : ∀ n, a + n ≤ l.length → numTo (l ++ r) a n = numTo l a n
  | 0, _ => rfl
  | n + 1, h => by
    unfold numTo
    rw [numTo_append l r a n (by omega)]
    congr 2
    simp only [List.getD_eq_getElem?_getD]
    rw [List.getElem?_append_left (by omega)]
theorem numTo_behind (l r : List UInt8) (a n : Nat) : numTo (l ++ r) (l.length + a) n = numTo r a n := by
  have h := numTo_drop (l ++ r) l.length a n
  rw [List.drop_left] at h
  exact h.symm
theorem byteOf_num (n : Int) (h : 0 ≤ n ∧ n < 256) : ((byteOf n).toNat : Int) = n := by
  unfold byteOf
  rw [UInt8.toNat_ofNat_of_lt' (show n.toNat < UInt8.size by unfold UInt8.size; omega)]
  omega
theorem numTo_two_back (x : Int) (h : 0 ≤ x ∧ x < 65536) (r : List UInt8) : numTo (two x ++ r) 0 2 = x := by
  rw [numTo_append _ _ _ _ (by rw [two_length]; omega), numTo_two_of]
  show ((byteOf (x / 256 % 256)).toNat : Int) * 256 + ((byteOf (x % 256)).toNat : Int) = x
  rw [byteOf_num _ (by omega), byteOf_num _ (by omega)]
  omega
theorem numTo_four_back (x : Int) (h : isWord x) (r : List UInt8) : numTo (four x ++ r) 0 4 = x := by
  unfold isWord at h
  unfold four
  rw [List.append_assoc, numTo_four_at, numTo_two_back _ (by omega)]
  have := numTo_behind (two (x / 65536)) (two (x % 65536) ++ r) 0 2
  rw [two_length] at this
  rw [this, numTo_two_back _ (by omega)]
  omega
theorem numTo_proofTo (cells : List Int) (n k : Nat) (r : List UInt8) : ∀ K, k < K → numTo (proofTo cells n K ++ r) (4 + 2 * k) 2 = digest cells (sib n k) k := by
  intro K
  induction K generalizing r with
  | zero => intro h; omega
  | succ K ih =>
    intro h
    unfold proofTo
    rw [List.append_assoc]
    by_cases e : k = K
    · subst e
      have := numTo_behind (proofTo cells n k) (two (digest cells (sib n k) k) ++ r) 0 2
      rw [proofTo_length, Nat.add_zero] at this
      rw [this]
      have hb := digest_bd cells (sib n k) k
      exact numTo_two_back _ (by omega) _
    · exact ih _ (by omega)
theorem numTo_proof_word (cells : List Int) (n : Nat) (h : isWord (cells.getD n 0)) (r : List UInt8) : numTo (proof cells n ++ r) 0 4 = cells.getD n 0 := by
  have : ∀ K (r : List UInt8), numTo (proofTo cells n K ++ r) 0 4 = cells.getD n 0 := by
    intro K
    induction K with
    | zero => intro r; exact numTo_four_back _ h r
    | succ K ih => intro r; unfold proofTo; rw [List.append_assoc]; exact ih _
  exact this 8 r
theorem digest_set_out (cells : List Int) (n : Nat) (v : Int) : ∀ d a, (n < a ∨ a + 2 ^ d ≤ n) → digest (cells.set n v) a d = digest cells a d
  | 0, a, h => by
    unfold digest
    congr 3
    simp only [List.getD_eq_getElem?_getD]
    rw [List.getElem?_set_ne (by omega)]
  | d + 1, a, h => by
    have hp : 2 ^ (d + 1) = 2 ^ d + 2 ^ d := by rw [Nat.pow_succ]; omega
    unfold digest
    rw [digest_set_out cells n v d a (by omega), digest_set_out cells n v d (a + 2 ^ d) (by omega)]
theorem base_even (n k : Nat) (h : n / 2 ^ k % 2 = 0) : n / 2 ^ (k + 1) * 2 ^ (k + 1) = n / 2 ^ k * 2 ^ k := by
  rw [Nat.pow_succ, ← Nat.div_div_eq_div_mul]
  generalize n / 2 ^ k = q at *
  obtain ⟨t, rfl⟩ : ∃ t, q = 2 * t := ⟨q / 2, by omega⟩
  rw [Nat.mul_div_cancel_left _ (by omega), Nat.mul_comm (2 ^ k) 2, ← Nat.mul_assoc, Nat.mul_comm t 2]
theorem base_odd (n k : Nat) (h : ¬ n / 2 ^ k % 2 = 0) : n / 2 ^ (k + 1) * 2 ^ (k + 1) + 2 ^ k = n / 2 ^ k * 2 ^ k := by
  rw [Nat.pow_succ, ← Nat.div_div_eq_div_mul]
  generalize n / 2 ^ k = q at *
  obtain ⟨t, rfl⟩ : ∃ t, q = 2 * t + 1 := ⟨q / 2, by omega⟩
  rw [show (2 * t + 1) / 2 = t by omega, Nat.mul_comm (2 ^ k) 2, ← Nat.mul_assoc, Nat.mul_comm t 2, Nat.add_mul, Nat.one_mul]
theorem rooted_proof (cells : List Int) (n : Nat) (hn : n < cells.length) (v : Int) (r : List UInt8) : ∀ k, k ≤ 8 → rooted (proof cells n ++ r) v n k = digest (cells.set n v) (n / 2 ^ k * 2 ^ k) k
  | 0, _ => by
    unfold rooted digest
    congr 3
    simp [List.getD_eq_getElem?_getD, hn]
  | k + 1, hk => by
    have ih := rooted_proof cells n hn v r k (by omega)
    have hnum := numTo_proofTo cells n k r 8 (by omega)
    have hlt : n < n / 2 ^ k * 2 ^ k + 2 ^ k := by
      have := Nat.lt_div_mul_add (a := n) (b := 2 ^ k) (Nat.two_pow_pos k)
      omega
    have hle : n / 2 ^ k * 2 ^ k ≤ n := Nat.div_mul_le_self n (2 ^ k)
    by_cases he : n / 2 ^ k % 2 = 0
    · rw [rooted_even _ _ _ _ he, ih]
      unfold proof
      rw [hnum]
      unfold sib
      rw [if_pos he, digest_succ, base_even n k he, digest_set_out cells n v k (n / 2 ^ k * 2 ^ k + 2 ^ k) (by omega)]
    · rw [rooted_odd _ _ _ _ he, ih]
      unfold proof
      rw [hnum]
      have hb := base_odd n k he
      unfold sib
      rw [if_neg he, digest_succ, hb, ← hb, Nat.add_sub_cancel, digest_set_out cells n v k (n / 2 ^ (k + 1) * 2 ^ (k + 1)) (by omega)]
theorem root_proof (cells : List Int) (n : Nat) (hl : cells.length = 256) (hn : n < 256) (v : Int) (r : List UInt8) : rooted (proof cells n ++ r) v n 8 = root (cells.set n v) := by
  rw [rooted_proof cells n (by omega) v r 8 (Nat.le_refl _)]
  unfold root
  rw [show n / 2 ^ 8 * 2 ^ 8 = 0 by omega]
theorem set_getD (cells : List Int) (n : Nat) (hn : n < cells.length) : cells.set n (cells.getD n 0) = cells := by
  rw [List.getD_eq_getElem?_getD, List.getElem?_eq_getElem hn]
  simp
theorem root_proof_own (cells : List Int) (n : Nat) (hl : cells.length = 256) (hn : n < 256) (r : List UInt8) : rooted (proof cells n ++ r) (cells.getD n 0) n 8 = root cells := by
  rw [root_proof cells n hl hn, set_getD cells n (by omega)]
theorem proof_length (cells : List Int) (n : Nat) : (proof cells n).length = 20 := proofTo_length cells n 8

/-- A machine's own memory that writes down what proves each answer. -/
def recordMemo : Memo (List Int × List (List UInt8) × List UInt8) where
  load m n := some (if n ≥ 256 then (m, 0, 3) else ((m.1, m.2.1, m.2.2 ++ proof m.1 n.toNat), m.1.getD n.toNat 0, 0))
  store m n v := some (if n ≥ 256 then (m, 3) else ((m.1.set n.toNat v, m.2.1, m.2.2 ++ proof m.1 n.toNat), 0))
  source m name := some (match findSrc m.2.1 name with | none => (m, [], 5) | some l => ((m.1, m.2.1, m.2.2 ++ byteOf l.length :: l), l, 0))
/-- What a machine shows of its next step, behind the label. -/
def shown (m : Mach) : List UInt8 := match coreStep recordMemo m.s (m.cells, m.srcs, []) with
  | none => []
  | some r => r.2.1.2.2
theorem coreStep_record (m : Mach) (sh : List UInt8) : ∃ x, coreStep recordMemo m.s (m.cells, m.srcs, sh) = some (m.step.1.s, (m.step.1.cells, m.step.1.srcs, sh ++ x), m.step.2) ∧
    (m.step.2 ≠ 5 → m.Ok → ∀ T y, ∃ T', coreStep proofsMemo m.s ⟨x ++ y, root m.cells, T⟩ = some (m.step.1.s, ⟨y, root m.step.1.cells, T'⟩, m.step.2)) := by
  have hfit : ∀ (n : Int) (y : List UInt8) (T : List (List UInt8)), m.Ok → ¬ n ≥ 256 → 0 ≤ n → fitsNow ⟨proof m.cells n.toNat ++ y, root m.cells, T⟩ n.toNat = true := by
    intro n y T hok hn h0
    unfold fitsNow
    have hw : isWord (m.cells.getD n.toNat 0) := hok.cell n
    simp only [List.length_append, proof_length]
    rw [numTo_proof_word _ _ hw, root_proof_own _ _ hok.len (by omega)]
    simp
  have hdrop : ∀ (n : Nat) (y : List UInt8), (proof m.cells n ++ y).drop 20 = y := by
    intro n y
    have := List.drop_left (l₁ := proof m.cells n) (l₂ := y)
    rwa [proof_length] at this
  unfold Mach.step
  by_cases hov : m.s.over = true
  · refine ⟨[], ?_, fun _ _ T y => ⟨T, ?_⟩⟩
    · unfold coreStep; simp [hov]
    · rw [step_over _ _ hov]; simp [hov]
  have hov' : m.s.over = false := by simpa using hov
  simp only [hov', Bool.false_eq_true, if_false]
  by_cases hpc : m.s.pc ≥ 256
  · refine ⟨[], ?_, fun _ _ T y => ⟨T, ?_⟩⟩
    · unfold coreStep; simp [hov', recordMemo, hpc]
    · rw [step_far _ _ hov' hpc]; simp [hpc]
  simp only [hpc, if_false]
  have e1 : ∀ sh, recordMemo.load (m.cells, m.srcs, sh) m.s.pc = some ((m.cells, m.srcs, sh ++ proof m.cells m.s.pc.toNat), m.cell m.s.pc, 0) := by intro sh; simp [recordMemo, hpc, Mach.cell]
  have e2 : ∀ (z : List UInt8) (T : List (List UInt8)), m.Ok → coreStep proofsMemo m.s ⟨proof m.cells m.s.pc.toNat ++ z, root m.cells, T⟩ = behind m.s ⟨proof m.cells m.s.pc.toNat ++ z, root m.cells, T⟩ := by
    intro z T hok
    have := hok.s.pc
    unfold isWord at this
    exact step_fit _ _ hov' hpc (hfit _ _ _ hok hpc this.1)
  have e3 : ∀ (z : List UInt8) (T : List (List UInt8)), m.Ok → ∃ T', behind m.s ⟨proof m.cells m.s.pc.toNat ++ z, root m.cells, T⟩ = match perform proofsMemo m.s ⟨z, root m.cells, T'⟩ (decode (m.cell m.s.pc)) with
      | none => none
      | some q => if q.2.2 ≠ 0 then some q else some ({ q.1 with steps := wrap (q.1.steps + 1) }, q.2.1, 0) := by
    intro z T hok
    unfold behind
    simp only [hdrop, numTo_proof_word _ _ (hok.cell m.s.pc)]
    exact ⟨_, rfl⟩
  unfold coreStep
  simp only [hov', Bool.false_eq_true, if_false, e1, ne_eq, not_true_eq_false]
  generalize hi : decode (m.cell m.s.pc) = i at *
  by_cases h13 : i.op = 13
  · simp only [h13, true_or, if_true]
    by_cases hn : wrap (m.s.reg i.b + i.n) ≥ 256
    · refine ⟨proof m.cells m.s.pc.toNat, ?_, fun _ hok T y => ?_⟩
      · simp [perform, h13, recordMemo, hn]
      · obtain ⟨T', h⟩ := e3 y T hok
        refine ⟨T', ?_⟩
        have h2 := e2 y T hok
        unfold coreStep at h2
        simp only [hov', Bool.false_eq_true, if_false] at h2
        rw [h2, h]
        simp [perform, h13, proofsMemo, hn]
    · have hw := wrap_word (m.s.reg i.b + i.n)
      unfold isWord at hw
      refine ⟨proof m.cells m.s.pc.toNat ++ proof m.cells (wrap (m.s.reg i.b + i.n)).toNat, ?_, fun _ hok T y => ?_⟩
      · simp [perform, h13, recordMemo, hn, moved, putted, Mach.cell]
      · obtain ⟨T', h⟩ := e3 (proof m.cells (wrap (m.s.reg i.b + i.n)).toNat ++ y) T hok
        refine ⟨T' ++ pfTexts (proof m.cells (wrap (m.s.reg i.b + i.n)).toNat ++ y) (wrap (m.s.reg i.b + i.n)).toNat, ?_⟩
        have h2 := e2 (proof m.cells (wrap (m.s.reg i.b + i.n)).toNat ++ y) T hok
        unfold coreStep at h2
        simp only [hov', Bool.false_eq_true, if_false] at h2
        rw [List.append_assoc, h2, h]
        have hf := hfit _ y T' hok hn hw.1
        simp only [perform, h13, proofsMemo, hn, hf, if_true, if_false, ne_eq, not_true_eq_false, hdrop]
        rw [numTo_proof_word _ _ (hok.cell _)]
        simp [moved, putted, Mach.cell]
  by_cases h14 : i.op = 14
  · simp only [h14, or_true, if_true]
    by_cases hn : wrap (m.s.reg i.b + i.n) ≥ 256
    · refine ⟨proof m.cells m.s.pc.toNat, ?_, fun _ hok T y => ?_⟩
      · simp [perform, h14, recordMemo, hn]
      · obtain ⟨T', h⟩ := e3 y T hok
        refine ⟨T', ?_⟩
        have h2 := e2 y T hok
        unfold coreStep at h2
        simp only [hov', Bool.false_eq_true, if_false] at h2
        rw [h2, h]
        simp [perform, h14, proofsMemo, hn]
    · have hw := wrap_word (m.s.reg i.b + i.n)
      unfold isWord at hw
      refine ⟨proof m.cells m.s.pc.toNat ++ proof m.cells (wrap (m.s.reg i.b + i.n)).toNat, ?_, fun _ hok T y => ?_⟩
      · simp [perform, h14, recordMemo, hn, moved]
      · obtain ⟨T', h⟩ := e3 (proof m.cells (wrap (m.s.reg i.b + i.n)).toNat ++ y) T hok
        refine ⟨T' ++ pfTexts (proof m.cells (wrap (m.s.reg i.b + i.n)).toNat ++ y) (wrap (m.s.reg i.b + i.n)).toNat, ?_⟩
        have h2 := e2 (proof m.cells (wrap (m.s.reg i.b + i.n)).toNat ++ y) T hok
        unfold coreStep at h2
        simp only [hov', Bool.false_eq_true, if_false] at h2
        rw [List.append_assoc, h2, h]
        have hf := hfit _ y T' hok hn hw.1
        simp only [perform, h14, proofsMemo, hn, hf, if_true, if_false, ne_eq, not_true_eq_false, hdrop]
        rw [root_proof _ _ hok.len (by omega)]
        simp [moved]
  by_cases h19 : i.op = 19
  · simp only [h19, if_true]
    cases hf : findSrc m.srcs (m.s.reg i.b) with
    | none =>
      refine ⟨proof m.cells m.s.pc.toNat, ?_, fun h5 => absurd rfl h5⟩
      simp [perform, h19, recordMemo, hf]
    | some l =>
      refine ⟨proof m.cells m.s.pc.toNat ++ byteOf l.length :: l, ?_, fun _ hok T y => ?_⟩
      · simp [perform, h19, recordMemo, hf, moved, putted]
      · obtain ⟨T', h⟩ := e3 (byteOf l.length :: l ++ y) T hok
        refine ⟨T' ++ [l], ?_⟩
        have h2 := e2 (byteOf l.length :: l ++ y) T hok
        unfold coreStep at h2
        simp only [hov', Bool.false_eq_true, if_false] at h2
        rw [List.append_assoc, h2, h]
        have hmem : l ∈ m.srcs := List.mem_of_find?_eq_some hf
        have hsum : sum l = m.s.reg i.b := by
          have := List.find?_some hf
          simpa using this
        have hl200 := hok.src l hmem
        have hsz : srcSize (byteOf l.length :: l ++ y) = l.length := by
          show (byteOf (l.length : Int)).toNat = l.length
          have := byteOf_num (l.length : Int) (by omega)
          omega
        have hnx : srcNext (byteOf l.length :: l ++ y) = l := by
          unfold srcNext
          rw [hsz]
          simp
        have hth : srcThere (byteOf l.length :: l ++ y) (m.s.reg i.b) = true := by
          unfold srcThere
          rw [hsz, hnx, hsum]
          simp
          omega
        have hsrc : proofsMemo.source ⟨byteOf l.length :: l ++ y, root m.cells, T'⟩ (m.s.reg i.b) = some (⟨y, root m.cells, T' ++ [l]⟩, l, 0) := by
          simp only [proofsMemo, hth, if_true, hsz, hnx]
          have e : (byteOf l.length :: l ++ y).drop (1 + l.length) = y := by
            rw [Nat.add_comm, List.cons_append, List.drop_succ_cons, List.drop_left]
          rw [e]
        simp only [perform, h19, hsrc]
        simp [moved, putted]
  simp only [h13, h14, h19, or_self, if_false]
  have hst := still_step m.s i
  refine ⟨proof m.cells m.s.pc.toNat, ?_, fun _ hok T y => ?_⟩
  · simp only [perform, h13, h14, h19, if_false]
    generalize still m.s i = q at *
    generalize plain m.s i = r at *
    by_cases hq : q.2 = 0
    · rw [if_neg (by simpa using hq)] at hst
      rw [← hst]; simp [hq]
    · rw [if_pos hq] at hst
      rw [← hst]; simp [hq]
  · obtain ⟨T', h⟩ := e3 y T hok
    refine ⟨T', ?_⟩
    have h2 := e2 y T hok
    unfold coreStep at h2
    simp only [hov', Bool.false_eq_true, if_false] at h2
    rw [h2, h]
    simp only [perform, h13, h14, h19, if_false]
    generalize still m.s i = q at *
    generalize plain m.s i = r at *
    by_cases hq : q.2 = 0
    · rw [if_neg (by simpa using hq)] at hst
      rw [← hst]; simp [hq]
    · rw [if_pos hq] at hst
      rw [← hst]; simp [hq]
end Dp
end Go.Proofs.YtdipojfngdceoaaDoor
