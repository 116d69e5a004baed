/- Steps on the way: PureMerkle, PureSound, PureShown, OwnBytes, OpenBase, OpenArgs, AskedAt. -/
import Derived.Test.YtdipojfngdceoaaGreatDoorShQ01
import Derived.Test.YtdipojfngdceoaaGreatDoorShQ04
import Derived.Test.YtdipojfngdceoaaGreatDoorShQ23
import Derived.Test.YtdipojfngdceoaaGreatDoorShQ30
import Derived.Test.YtdipojfngdceoaaGreatDoorRows
import Derived.ProofKit
import Derived.OpenShut
import Derived.Lib.SmallJoins
namespace Go.Proofs.YtdipojfngdceoaaGreatDoor
open Go.RowKit
namespace Dp
theorem numTo_append (l r : List UInt8) (a : Nat) : ∀ n, a + n ≤ l.length → numTo (l ++ r) a n = numTo l a n
 | 0, _ => rfl
 | n + 1, h => by
  unfold numTo
  rw [numTo_append l r a n (by omega)]
  congr 2
  simp only [List.getD_eq_getElem?_getD]
  rw [List.getElem?_append_left (by omega)]
theorem numTo_behind (l r : List UInt8) (a n : Nat) : numTo (l ++ r) (l.length + a) n = numTo r a n := by
 have h := numTo_drop (l ++ r) l.length a n
 rw [List.drop_left] at h
 exact h.symm
theorem byteOf_num (n : Int) (h : 0 ≤ n ∧ n < 256) : ((byteOf n).toNat : Int) = n := by
 unfold byteOf
 rw [UInt8.toNat_ofNat_of_lt' (show n.toNat < UInt8.size by unfold UInt8.size; omega)]
 omega
theorem numTo_two_back (x : Int) (h : 0 ≤ x ∧ x < 65536) (r : List UInt8) : numTo (two x ++ r) 0 2 = x := by
 rw [numTo_append _ _ _ _ (by rw [two_length]; omega), numTo_two_of]
 show ((byteOf (x / 256 % 256)).toNat : Int) * 256 + ((byteOf (x % 256)).toNat : Int) = x
 rw [byteOf_num _ (by omega), byteOf_num _ (by omega)]
 omega
theorem numTo_four_back (x : Int) (h : isWord x) (r : List UInt8) : numTo (four x ++ r) 0 4 = x := by
 unfold isWord at h
 unfold four
 rw [List.append_assoc, numTo_four_at, numTo_two_back _ (by omega)]
 have := numTo_behind (two (x / 65536)) (two (x % 65536) ++ r) 0 2
 rw [two_length] at this
 rw [this, numTo_two_back _ (by omega)]
 omega
theorem numTo_proofTo (cells : List Int) (n k : Nat) (r : List UInt8) : ∀ K, k < K → numTo (proofTo cells n K ++ r) (4 + 2 * k) 2 = digest cells (sib n k) k := by
 intro K
 induction K generalizing r with
 | zero => intro h; omega
 | succ K ih =>
  intro h
  unfold proofTo
  rw [List.append_assoc]
  by_cases e : k = K
  ·subst e
   have := numTo_behind (proofTo cells n k) (two (digest cells (sib n k) k) ++ r) 0 2
   rw [proofTo_length, Nat.add_zero] at this
   rw [this]
   have hb := digest_bd cells (sib n k) k
   exact numTo_two_back _ (by omega) _
  ·exact ih _ (by omega)
theorem numTo_proof_word (cells : List Int) (n : Nat) (h : isWord (cells.getD n 0)) (r : List UInt8) : numTo (proof cells n ++ r) 0 4 = cells.getD n 0 := by
 have : ∀ K (r : List UInt8), numTo (proofTo cells n K ++ r) 0 4 = cells.getD n 0 := by
  intro K
  induction K with
  | zero => intro r; exact numTo_four_back _ h r
  | succ K ih => intro r; unfold proofTo; rw [List.append_assoc]; exact ih _
 exact this 8 r
theorem digest_set_out (cells : List Int) (n : Nat) (v : Int) : ∀ d a, (n < a ∨ a + 2 ^ d ≤ n) → digest (cells.set n v) a d = digest cells a d
 | 0, a, h => by
  unfold digest
  congr 3
  simp only [List.getD_eq_getElem?_getD]
  rw [List.getElem?_set_ne (by omega)]
 | d + 1, a, h => by
  have hp : 2 ^ (d + 1) = 2 ^ d + 2 ^ d := by rw [Nat.pow_succ]; omega
  unfold digest
  rw [digest_set_out cells n v d a (by omega), digest_set_out cells n v d (a + 2 ^ d) (by omega)]
theorem base_even (n k : Nat) (h : n / 2 ^ k % 2 = 0) : n / 2 ^ (k + 1) * 2 ^ (k + 1) = n / 2 ^ k * 2 ^ k := by
 rw [Nat.pow_succ, ← Nat.div_div_eq_div_mul]
 generalize n / 2 ^ k = q at *
 obtain ⟨t, rfl⟩ : ∃ t, q = 2 * t := ⟨q / 2, by omega⟩
 rw [Nat.mul_div_cancel_left _ (by omega), Nat.mul_comm (2 ^ k) 2, ← Nat.mul_assoc, Nat.mul_comm t 2]
theorem base_odd (n k : Nat) (h : ¬ n / 2 ^ k % 2 = 0) : n / 2 ^ (k + 1) * 2 ^ (k + 1) + 2 ^ k = n / 2 ^ k * 2 ^ k := by
 rw [Nat.pow_succ, ← Nat.div_div_eq_div_mul]
 generalize n / 2 ^ k = q at *
 obtain ⟨t, rfl⟩ : ∃ t, q = 2 * t + 1 := ⟨q / 2, by omega⟩
 rw [show (2 * t + 1) / 2 = t by omega, Nat.mul_comm (2 ^ k) 2, ← Nat.mul_assoc, Nat.mul_comm t 2, Nat.add_mul, Nat.one_mul]
theorem rooted_proof (cells : List Int) (n : Nat) (hn : n < cells.length) (v : Int) (r : List UInt8) : ∀ k, k ≤ 8 → rooted (proof cells n ++ r) v n k = digest (cells.set n v) (n / 2 ^ k * 2 ^ k) k
 | 0, _ => by
  unfold rooted digest
  congr 3
  simp [List.getD_eq_getElem?_getD, hn]
 | k + 1, hk => by
  have ih := rooted_proof cells n hn v r k (by omega)
  have hnum := numTo_proofTo cells n k r 8 (by omega)
  have hlt : n < n / 2 ^ k * 2 ^ k + 2 ^ k := by
   have := Nat.lt_div_mul_add (a := n) (b := 2 ^ k) (Nat.two_pow_pos k)
   omega
  have hle : n / 2 ^ k * 2 ^ k ≤ n := Nat.div_mul_le_self n (2 ^ k)
  by_cases he : n / 2 ^ k % 2 = 0
  ·rw [rooted_even _ _ _ _ he, ih]
   unfold proof
   rw [hnum]
   unfold sib
   rw [if_pos he, digest_succ, base_even n k he, digest_set_out cells n v k (n / 2 ^ k * 2 ^ k + 2 ^ k) (by omega)]
  ·rw [rooted_odd _ _ _ _ he, ih]
   unfold proof
   rw [hnum]
   have hb := base_odd n k he
   unfold sib
   rw [if_neg he, digest_succ, hb, ← hb, Nat.add_sub_cancel, digest_set_out cells n v k (n / 2 ^ (k + 1) * 2 ^ (k + 1)) (by omega)]
theorem root_proof (cells : List Int) (n : Nat) (hl : cells.length = 256) (hn : n < 256) (v : Int) (r : List UInt8) : rooted (proof cells n ++ r) v n 8 = root (cells.set n v) := by
 rw [rooted_proof cells n (by omega) v r 8 (Nat.le_refl _)]
 unfold root
 rw [show n / 2 ^ 8 * 2 ^ 8 = 0 by omega]
theorem set_getD (cells : List Int) (n : Nat) (hn : n < cells.length) : cells.set n (cells.getD n 0) = cells := by
 rw [List.getD_eq_getElem?_getD, List.getElem?_eq_getElem hn]
 simp
theorem root_proof_own (cells : List Int) (n : Nat) (hl : cells.length = 256) (hn : n < 256) (r : List UInt8) : rooted (proof cells n ++ r) (cells.getD n 0) n 8 = root cells := by
 rw [root_proof cells n hl hn, set_getD cells n (by omega)]
theorem proof_length (cells : List Int) (n : Nat) : (proof cells n).length = 20 := proofTo_length cells n 8
def recordMemo : Memo (List Int × List (List UInt8) × List UInt8) where
 load m n := some (if n ≥ 256 then (m, 0, 3) else ((m.1, m.2.1, m.2.2 ++ proof m.1 n.toNat), m.1.getD n.toNat 0, 0))
 store m n v := some (if n ≥ 256 then (m, 3) else ((m.1.set n.toNat v, m.2.1, m.2.2 ++ proof m.1 n.toNat), 0))
 source m name := some (match findSrc m.2.1 name with | none => (m, [], 5) | some l => ((m.1, m.2.1, m.2.2 ++ byteOf l.length :: l), l, 0))
def shown (m : Mach) : List UInt8 := match coreStep recordMemo m.s (m.cells, m.srcs, []) with
 | none => []
 | some r => r.2.1.2.2
theorem coreStep_record (m : Mach) (sh : List UInt8) : ∃ x, coreStep recordMemo m.s (m.cells, m.srcs, sh) = some (m.step.1.s, (m.step.1.cells, m.step.1.srcs, sh ++ x), m.step.2) ∧
  (m.step.2 ≠ 5 → m.Ok → ∀ T y, ∃ T', coreStep proofsMemo m.s ⟨x ++ y, root m.cells, T⟩ = some (m.step.1.s, ⟨y, root m.step.1.cells, T'⟩, m.step.2)) := by
 have hfit : ∀ (n : Int) (y : List UInt8) (T : List (List UInt8)), m.Ok → ¬ n ≥ 256 → 0 ≤ n → fitsNow ⟨proof m.cells n.toNat ++ y, root m.cells, T⟩ n.toNat = true := by
  intro n y T hok hn h0
  unfold fitsNow
  have hw : isWord (m.cells.getD n.toNat 0) := hok.cell n
  simp only [List.length_append, proof_length]
  rw [numTo_proof_word _ _ hw, root_proof_own _ _ hok.len (by omega)]
  simp
 have hdrop : ∀ (n : Nat) (y : List UInt8), (proof m.cells n ++ y).drop 20 = y := by
  intro n y
  have := List.drop_left (l₁ := proof m.cells n) (l₂ := y)
  rwa [proof_length] at this
 unfold Mach.step
 by_cases hov : m.s.over = true
 ·refine ⟨[], ?_, fun _ _ T y => ⟨T, ?_⟩⟩
  ·unfold coreStep; simp [hov]
  ·rw [step_over _ _ hov]; simp [hov]
 have hov' : m.s.over = false := by simpa using hov
 simp only [hov', Bool.false_eq_true, if_false]
 by_cases hpc : m.s.pc ≥ 256
 ·refine ⟨[], ?_, fun _ _ T y => ⟨T, ?_⟩⟩
  ·unfold coreStep; simp [hov', recordMemo, hpc]
  ·rw [step_far _ _ hov' hpc]; simp [hpc]
 simp only [hpc, if_false]
 have e1 : ∀ sh, recordMemo.load (m.cells, m.srcs, sh) m.s.pc = some ((m.cells, m.srcs, sh ++ proof m.cells m.s.pc.toNat), m.cell m.s.pc, 0) := by intro sh; simp [recordMemo, hpc, Mach.cell]
 have e2 : ∀ (z : List UInt8) (T : List (List UInt8)), m.Ok → coreStep proofsMemo m.s ⟨proof m.cells m.s.pc.toNat ++ z, root m.cells, T⟩ = behind m.s ⟨proof m.cells m.s.pc.toNat ++ z, root m.cells, T⟩ := by
  intro z T hok
  have := hok.s.pc
  unfold isWord at this
  exact step_fit _ _ hov' hpc (hfit _ _ _ hok hpc this.1)
 have e3 : ∀ (z : List UInt8) (T : List (List UInt8)), m.Ok → ∃ T', behind m.s ⟨proof m.cells m.s.pc.toNat ++ z, root m.cells, T⟩ = match perform proofsMemo m.s ⟨z, root m.cells, T'⟩ (decode (m.cell m.s.pc)) with
   | none => none
   | some q => if q.2.2 ≠ 0 then some q else some ({ q.1 with steps := wrap (q.1.steps + 1) }, q.2.1, 0) := by
  intro z T hok
  unfold behind
  simp only [hdrop, numTo_proof_word _ _ (hok.cell m.s.pc)]
  exact ⟨_, rfl⟩
 unfold coreStep
 simp only [hov', Bool.false_eq_true, if_false, e1, ne_eq, not_true_eq_false]
 generalize hi : decode (m.cell m.s.pc) = i at *
 by_cases h13 : i.op = 13
 ·simp only [h13, true_or, if_true]
  by_cases hn : wrap (m.s.reg i.b + i.n) ≥ 256
  ·refine ⟨proof m.cells m.s.pc.toNat, ?_, fun _ hok T y => ?_⟩
   ·simp [perform, h13, recordMemo, hn]
   ·obtain ⟨T', h⟩ := e3 y T hok
    refine ⟨T', ?_⟩
    have h2 := e2 y T hok
    unfold coreStep at h2
    simp only [hov', Bool.false_eq_true, if_false] at h2
    rw [h2, h]
    simp [perform, h13, proofsMemo, hn]
  ·have hw := wrap_word (m.s.reg i.b + i.n)
   unfold isWord at hw
   refine ⟨proof m.cells m.s.pc.toNat ++ proof m.cells (wrap (m.s.reg i.b + i.n)).toNat, ?_, fun _ hok T y => ?_⟩
   ·simp [perform, h13, recordMemo, hn, moved, putted, Mach.cell]
   ·obtain ⟨T', h⟩ := e3 (proof m.cells (wrap (m.s.reg i.b + i.n)).toNat ++ y) T hok
    refine ⟨T' ++ pfTexts (proof m.cells (wrap (m.s.reg i.b + i.n)).toNat ++ y) (wrap (m.s.reg i.b + i.n)).toNat, ?_⟩
    have h2 := e2 (proof m.cells (wrap (m.s.reg i.b + i.n)).toNat ++ y) T hok
    unfold coreStep at h2
    simp only [hov', Bool.false_eq_true, if_false] at h2
    rw [List.append_assoc, h2, h]
    have hf := hfit _ y T' hok hn hw.1
    simp only [perform, h13, proofsMemo, hn, hf, if_true, if_false, ne_eq, not_true_eq_false, hdrop]
    rw [numTo_proof_word _ _ (hok.cell _)]
    simp [moved, putted, Mach.cell]
 by_cases h14 : i.op = 14
 ·simp only [h14, or_true, if_true]
  by_cases hn : wrap (m.s.reg i.b + i.n) ≥ 256
  ·refine ⟨proof m.cells m.s.pc.toNat, ?_, fun _ hok T y => ?_⟩
   ·simp [perform, h14, recordMemo, hn]
   ·obtain ⟨T', h⟩ := e3 y T hok
    refine ⟨T', ?_⟩
    have h2 := e2 y T hok
    unfold coreStep at h2
    simp only [hov', Bool.false_eq_true, if_false] at h2
    rw [h2, h]
    simp [perform, h14, proofsMemo, hn]
  ·have hw := wrap_word (m.s.reg i.b + i.n)
   unfold isWord at hw
   refine ⟨proof m.cells m.s.pc.toNat ++ proof m.cells (wrap (m.s.reg i.b + i.n)).toNat, ?_, fun _ hok T y => ?_⟩
   ·simp [perform, h14, recordMemo, hn, moved]
   ·obtain ⟨T', h⟩ := e3 (proof m.cells (wrap (m.s.reg i.b + i.n)).toNat ++ y) T hok
    refine ⟨T' ++ pfTexts (proof m.cells (wrap (m.s.reg i.b + i.n)).toNat ++ y) (wrap (m.s.reg i.b + i.n)).toNat, ?_⟩
    have h2 := e2 (proof m.cells (wrap (m.s.reg i.b + i.n)).toNat ++ y) T hok
    unfold coreStep at h2
    simp only [hov', Bool.false_eq_true, if_false] at h2
    rw [List.append_assoc, h2, h]
    have hf := hfit _ y T' hok hn hw.1
    simp only [perform, h14, proofsMemo, hn, hf, if_true, if_false, ne_eq, not_true_eq_false, hdrop]
    rw [root_proof _ _ hok.len (by omega)]
    simp [moved]
 by_cases h19 : i.op = 19
 ·simp only [h19, if_true]
  cases hf : findSrc m.srcs (m.s.reg i.b) with
  | none =>
   refine ⟨proof m.cells m.s.pc.toNat, ?_, fun h5 => absurd rfl h5⟩
   simp [perform, h19, recordMemo, hf]
  | some l =>
   refine ⟨proof m.cells m.s.pc.toNat ++ byteOf l.length :: l, ?_, fun _ hok T y => ?_⟩
   ·simp [perform, h19, recordMemo, hf, moved, putted]
   ·obtain ⟨T', h⟩ := e3 (byteOf l.length :: l ++ y) T hok
    refine ⟨T' ++ [l], ?_⟩
    have h2 := e2 (byteOf l.length :: l ++ y) T hok
    unfold coreStep at h2
    simp only [hov', Bool.false_eq_true, if_false] at h2
    rw [List.append_assoc, h2, h]
    have hmem : l ∈ m.srcs := List.mem_of_find?_eq_some hf
    have hsum : sum l = m.s.reg i.b := by
     have := List.find?_some hf
     simpa using this
    have hl200 := hok.src l hmem
    have hsz : srcSize (byteOf l.length :: l ++ y) = l.length := by
     show (byteOf (l.length : Int)).toNat = l.length
     have := byteOf_num (l.length : Int) (by omega)
     omega
    have hnx : srcNext (byteOf l.length :: l ++ y) = l := by
     unfold srcNext
     rw [hsz]
     simp
    have hth : srcThere (byteOf l.length :: l ++ y) (m.s.reg i.b) = true := by
     unfold srcThere
     rw [hsz, hnx, hsum]
     simp
     omega
    have hsrc : proofsMemo.source ⟨byteOf l.length :: l ++ y, root m.cells, T'⟩ (m.s.reg i.b) = some (⟨y, root m.cells, T' ++ [l]⟩, l, 0) := by
     simp only [proofsMemo, hth, if_true, hsz, hnx]
     have e : (byteOf l.length :: l ++ y).drop (1 + l.length) = y := by
      rw [Nat.add_comm, List.cons_append, List.drop_succ_cons, List.drop_left]
     rw [e]
    simp only [perform, h19, hsrc]
    simp [moved, putted]
 simp only [h13, h14, h19, or_self, if_false]
 have hst := still_step m.s i
 refine ⟨proof m.cells m.s.pc.toNat, ?_, fun _ hok T y => ?_⟩
 ·simp only [perform, h13, h14, h19, if_false]
  generalize still m.s i = q at *
  generalize plain m.s i = r at *
  by_cases hq : q.2 = 0
  ·rw [if_neg (by simpa using hq)] at hst
   rw [← hst]; simp [hq]
  ·rw [if_pos hq] at hst
   rw [← hst]; simp [hq]
 ·obtain ⟨T', h⟩ := e3 y T hok
  refine ⟨T', ?_⟩
  have h2 := e2 y T hok
  unfold coreStep at h2
  simp only [hov', Bool.false_eq_true, if_false] at h2
  rw [h2, h]
  simp only [perform, h13, h14, h19, if_false]
  generalize still m.s i = q at *
  generalize plain m.s i = r at *
  by_cases hq : q.2 = 0
  ·rw [if_neg (by simpa using hq)] at hst
   rw [← hst]; simp [hq]
  ·rw [if_pos hq] at hst
   rw [← hst]; simp [hq]
end Dp
namespace Dp
def believed (l : List UInt8) (r : Cs × Pm × Int) : List (List UInt8) := label (unlab l) (unroot l) :: r.2.1.texts
end Dp
namespace Dp
def docBack (m : Mach) : List UInt8 :=
 if (decode (m.cell m.s.pc)).op = 13 ∨ (decode (m.cell m.s.pc)).op = 14 then proof m.cells (wrap (m.s.reg (decode (m.cell m.s.pc)).b + (decode (m.cell m.s.pc)).n)).toNat
 else if (decode (m.cell m.s.pc)).op = 19 then (match findSrc m.srcs (m.s.reg (decode (m.cell m.s.pc)).b) with | none => [] | some l => byteOf l.length :: l)
 else []
def docShown (m : Mach) : List UInt8 := if m.s.over then [] else proof m.cells m.s.pc.toNat ++ docBack m
theorem shown_doc (m : Mach) (h : m.step.2 = 0) : shown m = docShown m := by
 unfold shown docShown docBack
 unfold Mach.step at h
 by_cases hov : m.s.over = true
 ·unfold coreStep; simp [hov]
 have hov' : m.s.over = false := by simpa using hov
 simp only [hov', Bool.false_eq_true, if_false] at h ⊢
 by_cases hpc : m.s.pc ≥ 256
 ·simp [hpc] at h
 simp only [hpc, if_false] at h
 have e1 : recordMemo.load (m.cells, m.srcs, []) m.s.pc = some ((m.cells, m.srcs, proof m.cells m.s.pc.toNat), m.cell m.s.pc, 0) := by simp [recordMemo, hpc, Mach.cell]
 unfold coreStep
 simp only [hov', Bool.false_eq_true, if_false, e1, ne_eq, not_true_eq_false]
 generalize hi : decode (m.cell m.s.pc) = i at *
 by_cases h13 : i.op = 13
 ·by_cases hn : wrap (m.s.reg i.b + i.n) ≥ 256
  ·simp [h13, hn] at h
  ·simp [perform, h13, recordMemo, hn]
 by_cases h14 : i.op = 14
 ·by_cases hn : wrap (m.s.reg i.b + i.n) ≥ 256
  ·simp [h14, hn] at h
  ·simp [perform, h14, recordMemo, hn]
 by_cases h19 : i.op = 19
 ·cases hf : findSrc m.srcs (m.s.reg i.b) with
  | none => simp [h19, hf] at h
  | some l => simp [perform, h19, recordMemo, hf]
 simp only [h13, h14, h19, or_self, if_false, perform] at h ⊢
 have hst := still_step m.s i
 by_cases hz : (still m.s i).2 = 0
 ·simp [hz]
 ·simp [hz]
def docWitness (m : Mach) : List UInt8 := if m.step.2 ≠ 0 then [] else label m.s (root m.cells) ++ docShown m
theorem step_zero_pc (m : Mach) (h : m.step.2 = 0) (hov : m.s.over = false) : m.s.pc < 256 := by
 unfold Mach.step at h
 rw [if_neg (by rw [hov]; decide)] at h
 by_cases hpc : m.s.pc ≥ 256
 ·rw [if_pos hpc] at h; cases h
 ·omega
theorem step_zero_far (m : Mach) (h : m.step.2 = 0) (hov : m.s.over = false) (i : Ins) (hi : decode (m.cell m.s.pc) = i) (ho : i.op = 13 ∨ i.op = 14) : wrap (m.s.reg i.b + i.n) < 256 := by
 have hpc := step_zero_pc m h hov
 unfold Mach.step at h
 rw [if_neg (by rw [hov]; decide), if_neg (by omega)] at h
 simp only [hi, if_pos ho] at h
 by_cases hn : wrap (m.s.reg i.b + i.n) ≥ 256
 ·rw [if_pos hn] at h; cases h
 ·omega
theorem step_zero_src (m : Mach) (h : m.step.2 = 0) (hov : m.s.over = false) (i : Ins) (hi : decode (m.cell m.s.pc) = i) (ho : i.op = 19) : findSrc m.srcs (m.s.reg i.b) ≠ none := by
 have hpc := step_zero_pc m h hov
 unfold Mach.step at h
 rw [if_neg (by rw [hov]; decide), if_neg (by omega)] at h
 intro hn
 simp [hi, ho, hn] at h
theorem docShown_length (m : Mach) (hok : m.Ok) : (docShown m).length ≤ 221 := by
 unfold docShown docBack
 split
 ·simp
 rw [List.length_append, proof_length]
 split
 ·rw [proof_length]; omega
 split
 ·split
  ·simp
  ·rename_i l hl
   have hmem : l ∈ m.srcs := List.mem_of_find?_eq_some hl
   have := hok.src l hmem
   simp only [List.length_cons]; omega
 ·simp
end Dp
end Go.Proofs.YtdipojfngdceoaaGreatDoor

namespace Go.Proofs.YtdipojfngdceoaaGreatDoor
namespace Dp
open Go.RowKit
theorem append_types {P : Program} (w : World) (t t2 ty e e2 : TypeId) (i : TypeInfo) (hi : P.info? e = some i) (ht : P.underlying t = some (.slice e)) (h2 : P.underlying t2 = some (.slice e2)) (base : Option Addr) (n c : Nat) (vx : Value) :
  (Builtin.append_ #[t, t2] ty #[.slice base n c, vx]).run P w = (Builtin.append_ #[t, t] ty #[.slice base n c, vx]).run P w := by
 simp [Builtin.append_, run_underlying ht, run_underlying h2, sizeOf, typeInfo, hi]
theorem wpList_append_bytes {P : Program} {w : World} {ops : Array Oper} {rest : List Oper} {o : Oper} {a : Act} {Q : Exit → Act → World → Prop} (hgd : o.guard = none) (s x : Operand) (t t2 : TypeId)
  (ho : o.op = .call { callee := .builtin .append, args := #[s, x], argTypes := #[t, t2] }) (e e2 : TypeId) (z : Value) (bytes : Nat) (ht : P.underlying t = some (.slice e)) (ht2 : P.underlying t2 = some (.slice e2)) (hinfo : (P.info? e).map (fun i => (i.zero, i.size, i.bytes)) = some (some z, 1, bytes)) (hz1 : z.cells.size = 1)
  (v : Value) (xs : List Value) (hs : a.eval s = v) (hown : Own w e v xs) (vx : Value) (l : List UInt8) (hxv : a.eval x = vx) (hx : Bytes w vx l) (h63 : xs.length + l.length ≤ maxLen) (hbytes : (xs.length + l.length) * bytes ≤ 140737488355328)
  (h : ∀ v' w', Own w' e v' (xs ++ vals l) → Keeps (fun k => v.ownBlock = some k) w w' → Hid (v'.ownBlock = v.ownBlock ∧ w'.heap.size = w.heap.size ∨ v'.ownBlock = some w.heap.size ∧ w'.heap.size = w.heap.size + 1) → wpList P ops Q rest (a.put o.dst v') w') :
  wpList P ops Q (o :: rest) a w := by
 refine wpList_plain hgd fun K hK => ?_
 obtain ⟨b, of, ad, cap, rfl, hl, hne, hc⟩ := hx
 have hr : ∃ v' w', (Builtin.append_ #[t, t2] o.type #[v, .slice ad l.length cap]).run P w = .ok v' w' ∧ Own w' e v' (xs ++ vals l) ∧ Keeps (fun k => v.ownBlock = some k) w w' ∧
   (v'.ownBlock = v.ownBlock ∧ w'.heap.size = w.heap.size ∨ v'.ownBlock = some w.heap.size ∧ w'.heap.size = w.heap.size + 1) := by
  obtain ⟨i0, hi0, _, _, _⟩ := info_parts hinfo
  have happ : (Builtin.append_ #[t, t2] o.type #[v, .slice ad l.length cap]).run P w = (Builtin.append_ #[t, t] o.type #[v, .slice ad l.length cap]).run P w := by
   obtain ⟨av, cv, ev⟩ := hown.isSlice
   rw [ev]
   exact append_types w t t2 o.type e e2 i0 hi0 ht ht2 _ _ _ _
  rw [happ]
  by_cases hn : l = []
  ·subst hn
   obtain ⟨i, hi, _, _, _⟩ := info_parts hinfo
   exact ⟨v, w, run_append_Own0 w t o.type e i ht hi v xs hown ad cap, by simpa [vals] using hown, Keeps.refl _ _, .inl ⟨rfl, rfl⟩⟩
  ·have hlen : (vals l).length = l.length := vals_length l
   have hpos : 0 < l.length := by cases l with | nil => exact absurd rfl hn | cons x y => simp
   rw [hne hn, ← hlen]
   refine run_append_Own w t o.type e z bytes ht hinfo hz1 v xs hown ⟨b, of, none⟩ cap (vals l) (fun j u hj => ?_) (fun u hu => ?_) (by omega) (by omega) (by rw [hlen]; exact hbytes)
   ·have hlt : j < l.length := by have := (List.getElem?_eq_some_iff.1 hj).1; omega
    have hadd : (⟨b, of, none⟩ : Addr).add j = ⟨b, of + j, none⟩ := by unfold Addr.add; split <;> simp_all
    rw [hadd, hc j hlt, ← hj]
    simp [vals, hlt]
   ·simp only [vals, List.mem_map] at hu
    obtain ⟨x, _, rfl⟩ := hu
    rfl
 obtain ⟨v', w', hr, h2, h3, h4⟩ := hr
 unfold Oper.wp execOp
 simp only [ho, resolve, invoke, builtin, Sem.run_bind, Sem.run_pure, Result.andThen_ok, List.map_toArray, List.map_cons, List.map_nil, hs, hxv, hr]
 exact hK _ _ (h v' w' h2 h3 h4)
end Dp
end Go.Proofs.YtdipojfngdceoaaGreatDoor

namespace Go.Proofs.YtdipojfngdceoaaGreatDoor
open Go.ChangeShapes Go.WideShapes Go.ChangeAt Go.RowKit
theorem cellsInt : Tryz.prog.cellsOf 3 = 1 := by kernel_rfl
theorem cellsStr : Tryz.prog.cellsOf 9 = 1 := by kernel_rfl
theorem cellsBool : Tryz.prog.cellsOf 4 = 1 := by kernel_rfl
namespace Dp
theorem exists_list {α : Type} {P : Nat → α → Prop} : ∀ n, (∀ i, i < n → ∃ o, P i o) → ∃ l : List α, l.length = n ∧ ∀ i (h : i < l.length), P i l[i]
 | 0, _ => ⟨[], rfl, fun i h => absurd h (by simp)⟩
 | n + 1, h => by
  obtain ⟨l, hl, hp⟩ := exists_list n (fun i hi => h i (by omega))
  obtain ⟨o, ho⟩ := h n (by omega)
  refine ⟨l ++ [o], by simp [hl], fun i hi => ?_⟩
  by_cases hin : i < l.length
  ·rw [List.getElem_append_left hin]; exact hp i hin
  ·have : i = n := by simp at hi; omega
   subst this
   rw [List.getElem_append_right (by omega)]; simpa [hl] using ho
theorem five {α : Type} {l : List α} (h : l.length = 5) : ∃ a b c d e, l = [a, b, c, d, e] := by
 match l, h with
 | [a, b, c, d, e], _ => exact ⟨a, b, c, d, e, rfl⟩
theorem add_off (b o i : Nat) : (⟨b, o, none⟩ : Addr).add i = ⟨b, o + i, none⟩ := by unfold Addr.add; split <;> simp_all
theorem add_add (a : Addr) (i j : Nat) : (a.add i).add j = a.add (i + j) := by
 unfold Addr.add
 by_cases hi : i = 0
 ·subst hi; simp
 ·by_cases hj : j = 0
  ·subst hj; simp
  ·rw [if_neg hj, if_neg hi, if_neg (show ¬ i + j = 0 by omega)]
   simp [Nat.add_assoc]
theorem mapM_at {α β : Type} {f : α → Option β} : ∀ (l : List α) (cs : List β), l.mapM f = some cs → ∀ j (h : j < l.length), f l[j] = cs[j]?
 | [], _, _, j, h => absurd h (by simp)
 | x :: l, cs, h, j, hj => by
  rw [List.mapM_cons] at h
  simp only [Option.bind_eq_bind, Option.bind_eq_some_iff] at h
  obtain ⟨y, hy, ys, hys, hcs⟩ := h
  have hcs' : cs = y :: ys := by simpa using hcs.symm
  subst hcs'
  cases j with
  | zero => exact hy
  | succ j => exact mapM_at l ys hys j (by simpa using hj)
theorem cells_at {w : World} {base : Nat} {a : Addr} {n : Nat} {cs : List Value} (h : w.cells? base a n = some cs) (j : Nat) (hj : j < n) : w.cell? (a.add j) = cs[j]? := by
 unfold World.cells? at h
 split at h
 ·have := mapM_at _ _ h j (by simpa using hj)
  simpa using this
 ·exact absurd h (by simp)
theorem bulkAll_length {H : Type} : ∀ l : List (DataW H), l.length ≤ Rows.uptoBulkAll l
 | [] => Nat.le_refl _
 | d :: l => by
  have := bulkAll_length l
  have h1 : 1 ≤ Rows.uptoBulk d := by
   cases d
   case lit x => cases x <;> simp only [Rows.uptoBulk] <;> omega
   all_goals (simp only [Rows.uptoBulk]; try omega)
  simp only [List.length_cons, Rows.uptoBulkAll]; omega
theorem bulkAll_mem {H : Type} {d : DataW H} : ∀ {l : List (DataW H)}, d ∈ l → Rows.uptoBulk d ≤ Rows.uptoBulkAll l
 | x :: l, h => by
  simp only [List.mem_cons] at h
  simp only [Rows.uptoBulkAll]
  rcases h with rfl | h
  ·omega
  ·have := bulkAll_mem h; omega
end Dp
end Go.Proofs.YtdipojfngdceoaaGreatDoor

namespace Go.Proofs.YtdipojfngdceoaaGreatDoor
open Go.ChangeShapes Go.WideShapes Go.ChangeAt Go.RowKit
theorem cellsBools : Tryz.prog.cellsOf 38 = 1 := by kernel_rfl
theorem cellsOp : Tryz.prog.cellsOf 40 = 5 := by kernel_rfl
theorem cellsMade : Tryz.prog.cellsOf 36 = 2 := by kernel_rfl
section
variable {H : Type} {enc : TypeId × Value → H} {W : World} {fuel : Nat} {v : Value} {y : DataW H × List MemPlace}
theorem ints_of (h : DataW.trod enc Tryz.prog W 0 (fun _ => true) true fuel 22 [v] = some y) (hp : ∀ x ∈ y.2, x.block < W.heap.size) (hk : Rows.uptoBulk y.1 ≤ 1048576) :
  ∃ l, Dp.Ints W v l ∧ ∀ x ∈ l, -9223372036854775808 ≤ x ∧ x ≤ 9223372036854775807 := by
 rcases open_ints Tryz.underlying22 Tryz.underlying3 cellsInt h with ⟨hcs, rfl⟩ | ⟨a, len, cap, zs, hcs, _, hl, hm, hz, rfl, hcell, hws⟩
 ·obtain rfl : v = .slice none 0 0 := by simpa using hcs
  exact ⟨[], ⟨0, 0, none, 0, rfl, by simp, fun e => absurd rfl e, fun i hi => absurd hi (by simp)⟩, fun x hx => by simp at hx⟩
 ·obtain rfl : v = .slice (some a) len cap := by simpa using hcs
  simp only [if_true] at hz
  have hlen : (zs.take len).length = len := by simp; omega
  have hb : len ≤ 1048576 := by
   have h1 := Dp.bulkAll_length (lits (H := H) .i64 (zs.take len))
   have h2 : (lits (H := H) .i64 (zs.take len)).length = len := by simp [lits]; omega
   simp only [Rows.uptoBulk] at hk; omega
  refine ⟨zs.take len, ?_, fun x hx => bounds_i64 (hws x (List.mem_of_mem_take hx))⟩
  by_cases h0 : len = 0
  ·subst h0
   exact ⟨0, 0, some a, cap, by simp, by simp, fun e => absurd (by simp) e, fun i hi => absurd hi (by simp)⟩
  ·obtain ⟨b, off, spot⟩ := a
   have hspot : spot = none := by simpa [Addr.add] using World.cell?_spot (hcell 0 (by omega))
   subst hspot
   have hbW : b < W.heap.size := hp (.cell b off) (MemPlace.mem_row.2 ⟨0, by omega, by simp⟩)
   refine ⟨b, off, _, _, by rw [hlen], by omega, fun _ => ⟨rfl, hbW⟩, fun i hi => ?_⟩
   have hi' : i < len := by omega
   rw [← Dp.add_off, hcell i (by omega)]
   simp [List.getElem_take, List.getD_eq_getElem?_getD, List.getElem?_eq_getElem (show i < zs.length by omega)]
theorem texts_of (h : DataW.trod enc Tryz.prog W 0 (fun _ => true) true fuel 34 [v] = some y) (hp : ∀ x ∈ y.2, x.block < W.heap.size) (hk : Rows.uptoBulk y.1 ≤ 1048576) :
  ∃ l, Dp.Texts W v l := by
 rcases open_strings Tryz.underlying34 Tryz.underlying9 cellsStr h with ⟨hcs, rfl⟩ | ⟨a, len, cap, ss, hcs, _, hl, hm, hz, rfl, hcell, hws⟩
 ·obtain rfl : v = .slice none 0 0 := by simpa using hcs
  exact ⟨[], 0, 0, none, 0, rfl, by simp, fun e => absurd rfl e, fun i hi => absurd hi (by simp)⟩
 ·obtain rfl : v = .slice (some a) len cap := by simpa using hcs
  simp only [if_true] at hz
  have hlen : (ss.take len).length = len := by simp; omega
  have hb : len ≤ 1048576 := by
   have h1 := Dp.bulkAll_length (strs (H := H) (ss.take len))
   have h2 : (strs (H := H) (ss.take len)).length = len := by simp [strs]; omega
   simp only [Rows.uptoBulk] at hk; omega
  have hsl : ∀ s ∈ ss.take len, s.data.toList.length ≤ 1048576 := by
   intro s hs
   have h1 := Dp.bulkAll_mem (H := H) (d := .lit (.string s.data.toList)) (l := strs (ss.take len)) (List.mem_map.2 ⟨s, hs, rfl⟩)
   simp only [Rows.uptoBulk] at hk h1; omega
  refine ⟨(ss.take len).map (fun s => s.data.toList), ?_⟩
  by_cases h0 : len = 0
  ·subst h0
   exact ⟨0, 0, some a, cap, by simp, by simp, fun e => absurd (by simp) e, fun i hi => absurd hi (by simp)⟩
  ·obtain ⟨b, off, spot⟩ := a
   have hspot : spot = none := by simpa [Addr.add] using World.cell?_spot (hcell 0 (by omega))
   subst hspot
   have hbW : b < W.heap.size := hp (.cell b off) (MemPlace.mem_row.2 ⟨0, by omega, by simp⟩)
   refine ⟨b, off, _, _, by rw [List.length_map, hlen], by rw [List.length_map]; omega, fun _ => ⟨rfl, hbW⟩, fun i hi => ?_⟩
   have hi' : i < len := by rw [List.length_map] at hi; omega
   refine ⟨?_, ?_⟩
   ·rw [List.getElem_map]; exact hsl _ (List.getElem_mem _)
   ·rw [← Dp.add_off, hcell i (by omega)]
    simp [Dp.str, List.getElem_take, List.getD_eq_getElem?_getD, List.getElem?_eq_getElem (show i < ss.length by omega)]
theorem op_of {cs : List Value} (h : DataW.trod enc Tryz.prog W 0 (fun _ => true) true fuel 40 cs = some y) :
  ∃ o : Dp.SOp, cs = o.cells ∧ o.vA.oneCell' = true ∧ -9223372036854775808 ≤ o.kind ∧ o.kind ≤ 9223372036854775807 := by
 obtain ⟨xs, n, _, rfl, hl, hlen, hf⟩ := DataW.trod_struct Tryz.underlying40 h
 rw [cellsOp] at hl
 obtain ⟨c0, c1, c2, c3, c4, rfl⟩ := Dp.five hl
 obtain ⟨y0, y1, y2, y3, y4, rfl⟩ := Dp.five (show xs.length = 5 from hlen)
 have f0 : DataW.trod enc Tryz.prog W 0 (fun _ => true) true n 3 [c0] = some y0 := by
  have h : DataW.trod enc Tryz.prog W 0 (fun _ => true) true n 3 (List.take (Tryz.prog.cellsOf 3) (List.drop 0 [c0, c1, c2, c3, c4])) = some y0 := hf 0 _ rfl
  rw [cellsInt] at h
  exact h
 have f1 : DataW.trod enc Tryz.prog W 0 (fun _ => true) true n 3 [c1] = some y1 := by
  have h : DataW.trod enc Tryz.prog W 0 (fun _ => true) true n 3 (List.take (Tryz.prog.cellsOf 3) (List.drop 1 [c0, c1, c2, c3, c4])) = some y1 := hf 1 _ rfl
  rw [cellsInt] at h
  exact h
 have f2 : DataW.trod enc Tryz.prog W 0 (fun _ => true) true n 38 [c2] = some y2 := by
  have h : DataW.trod enc Tryz.prog W 0 (fun _ => true) true n 38 (List.take (Tryz.prog.cellsOf 38) (List.drop 2 [c0, c1, c2, c3, c4])) = some y2 := hf 2 _ rfl
  rw [cellsBools] at h
  exact h
 have f3 : DataW.trod enc Tryz.prog W 0 (fun _ => true) true n 9 [c3] = some y3 := by
  have h : DataW.trod enc Tryz.prog W 0 (fun _ => true) true n 9 (List.take (Tryz.prog.cellsOf 9) (List.drop 3 [c0, c1, c2, c3, c4])) = some y3 := hf 3 _ rfl
  rw [cellsStr] at h
  exact h
 have f4 : DataW.trod enc Tryz.prog W 0 (fun _ => true) true n 4 [c4] = some y4 := by
  have h : DataW.trod enc Tryz.prog W 0 (fun _ => true) true n 4 (List.take (Tryz.prog.cellsOf 4) (List.drop 4 [c0, c1, c2, c3, c4])) = some y4 := hf 4 _ rfl
  rw [cellsBool] at h
  exact h
 obtain ⟨k, e0, _, w0⟩ := DataW.trod_int Tryz.underlying3 f0
 obtain ⟨nn, e1, _, _⟩ := DataW.trod_int Tryz.underlying3 f1
 obtain ⟨s, e3, _, _⟩ := DataW.trod_string Tryz.underlying9 f3
 obtain ⟨q, e4, _⟩ := DataW.trod_bool Tryz.underlying4 f4
 obtain rfl : c0 = .int .i64 k := by simpa using e0
 obtain rfl : c1 = .int .i64 nn := by simpa using e1
 obtain rfl : c3 = .string s := by simpa using e3
 obtain rfl : c4 = .bool q := by simpa using e4
 refine ⟨⟨k, nn, c2, s, q⟩, rfl, ?_, bounds_i64 w0⟩
 rcases DataW.trod_slice Tryz.underlying38 f2 with ⟨e2, _⟩ | ⟨a, len, cap, _, _, _, _, e2, _⟩
 ·obtain rfl : c2 = .slice none 0 0 := by simpa using e2
  rfl
 ·obtain rfl : c2 = .slice (some a) len cap := by simpa using e2
  rfl
end
end Go.Proofs.YtdipojfngdceoaaGreatDoor

namespace Go.Proofs.YtdipojfngdceoaaGreatDoor
namespace Dp
open Go.RowKit
def AskedAt (w : World) (v : Value) (l : List Bool) : Prop :=
 ∃ b o ad cap, v = .slice ad l.length cap ∧ l.length ≤ 1048576 ∧ (l ≠ [] → ad = some ⟨b, o, none⟩ ∧ b < w.heap.size) ∧ ∀ i (h : i < l.length), w.cell? ⟨b, o + i, none⟩ = some (.bool l[i])
end Dp
end Go.Proofs.YtdipojfngdceoaaGreatDoor
