/- Steps on the way: PureMerkle, PureSound, RegionPair. -/
import Derived.Test.YtdipojfngdceoaaDoorPack58
import Derived.Test.YtdipojfngdceoaaDoorPack63
/- A cell's proof leads to the root, and with another word to the root of the cells that have it. No program is named here. -/
namespace Go.Proofs.YtdipojfngdceoaaDoor
open Go.RowKit

namespace Dp
theorem numTo_append (l r : List UInt8) (a : Nat) : ∀ n, a + n ≤ l.length → numTo (l ++ r) a n = numTo l a n
  | 0, _ => rfl
  | n + 1, h => by
    unfold numTo
    rw [numTo_append l r a n (by omega)]
    congr 2
    simp only [List.getD_eq_getElem?_getD]
    rw [List.getElem?_append_left (by omega)]
theorem numTo_behind (l r : List UInt8) (a n : Nat) : numTo (l ++ r) (l.length + a) n = numTo r a n := by
  have h := numTo_drop (l ++ r) l.length a n
  rw [List.drop_left] at h
  exact h.symm
theorem byteOf_num (n : Int) (h : 0 ≤ n ∧ n < 256) : ((byteOf n).toNat : Int) = n := by
  unfold byteOf
  rw [UInt8.toNat_ofNat_of_lt' (show n.toNat < UInt8.size by unfold UInt8.size; omega)]
  omega
theorem numTo_two_back (x : Int) (h : 0 ≤ x ∧ x < 65536) (r : List UInt8) : numTo (two x ++ r) 0 2 = x := by
  rw [numTo_append _ _ _ _ (by rw [two_length]; omega), numTo_two_of]
  show ((byteOf (x / 256 % 256)).toNat : Int) * 256 + ((byteOf (x % 256)).toNat : Int) = x
  rw [byteOf_num _ (by omega), byteOf_num _ (by omega)]
  omega
theorem numTo_four_back (x : Int) (h : isWord x) (r : List UInt8) : numTo (four x ++ r) 0 4 = x := by
  unfold isWord at h
  unfold four
  rw [List.append_assoc, numTo_four_at, numTo_two_back _ (by omega)]
  have := numTo_behind (two (x / 65536)) (two (x % 65536) ++ r) 0 2
  rw [two_length] at this
  rw [this, numTo_two_back _ (by omega)]
  omega
theorem numTo_proofTo (cells : List Int) (n k : Nat) (r : List UInt8) : ∀ K, k < K → numTo (proofTo cells n K ++ r) (4 + 2 * k) 2 = digest cells (sib n k) k := by
  intro K
  induction K generalizing r with
  | zero => intro h; omega
  | succ K ih =>
    intro h
    unfold proofTo
    rw [List.append_assoc]
    by_cases e : k = K
    · subst e
      have := numTo_behind (proofTo cells n k) (two (digest cells (sib n k) k) ++ r) 0 2
      rw [proofTo_length, Nat.add_zero] at this
      rw [this]
      have hb := digest_bd cells (sib n k) k
      exact numTo_two_back _ (by omega) _
    · exact ih _ (by omega)
theorem numTo_proof_word (cells : List Int) (n : Nat) (h : isWord (cells.getD n 0)) (r : List UInt8) : numTo (proof cells n ++ r) 0 4 = cells.getD n 0 := by
  have : ∀ K (r : List UInt8), numTo (proofTo cells n K ++ r) 0 4 = cells.getD n 0 := by
    intro K
    induction K with
    | zero => intro r; exact numTo_four_back _ h r
    | succ K ih => intro r; unfold proofTo; rw [List.append_assoc]; exact ih _
  exact this 8 r
theorem digest_set_out (cells : List Int) (n : Nat) (v : Int) : ∀ d a, (n < a ∨ a + 2 ^ d ≤ n) → digest (cells.set n v) a d = digest cells a d
  | 0, a, h => by
    unfold digest
    congr 3
    simp only [List.getD_eq_getElem?_getD]
    rw [List.getElem?_set_ne (by omega)]
  | d + 1, a, h => by
    have hp : 2 ^ (d + 1) = 2 ^ d + 2 ^ d := by rw [Nat.pow_succ]; omega
    unfold digest
    rw [digest_set_out cells n v d a (by omega), digest_set_out cells n v d (a + 2 ^ d) (by omega)]
theorem base_even (n k : Nat) (h : n / 2 ^ k % 2 = 0) : n / 2 ^ (k + 1) * 2 ^ (k + 1) = n / 2 ^ k * 2 ^ k := by
  rw [Nat.pow_succ, ← Nat.div_div_eq_div_mul]
  generalize n / 2 ^ k = q at *
  obtain ⟨t, rfl⟩ : ∃ t, q = 2 * t := ⟨q / 2, by omega⟩
  rw [Nat.mul_div_cancel_left _ (by omega), Nat.mul_comm (2 ^ k) 2, ← Nat.mul_assoc, Nat.mul_comm t 2]
theorem base_odd (n k : Nat) (h : ¬ n / 2 ^ k % 2 = 0) : n / 2 ^ (k + 1) * 2 ^ (k + 1) + 2 ^ k = n / 2 ^ k * 2 ^ k := by
  rw [Nat.pow_succ, ← Nat.div_div_eq_div_mul]
  generalize n / 2 ^ k = q at *
  obtain ⟨t, rfl⟩ : ∃ t, q = 2 * t + 1 := ⟨q / 2, by omega⟩
  rw [show (2 * t + 1) / 2 = t by omega, Nat.mul_comm (2 ^ k) 2, ← Nat.mul_assoc, Nat.mul_comm t 2, Nat.add_mul, Nat.one_mul]
theorem rooted_proof (cells : List Int) (n : Nat) (hn : n < cells.length) (v : Int) (r : List UInt8) : ∀ k, k ≤ 8 → rooted (proof cells n ++ r) v n k = digest (cells.set n v) (n / 2 ^ k * 2 ^ k) k
  | 0, _ => by
    unfold rooted digest
    congr 3
    simp [List.getD_eq_getElem?_getD, hn]
  | k + 1, hk => by
    have ih := rooted_proof cells n hn v r k (by omega)
    have hnum := numTo_proofTo cells n k r 8 (by omega)
    have hlt : n < n / 2 ^ k * 2 ^ k + 2 ^ k := by
      have := Nat.lt_div_mul_add (a := n) (b := 2 ^ k) (Nat.two_pow_pos k)
      omega
    have hle : n / 2 ^ k * 2 ^ k ≤ n := Nat.div_mul_le_self n (2 ^ k)
    by_cases he : n / 2 ^ k % 2 = 0
    · rw [rooted_even _ _ _ _ he, ih]
      unfold proof
      rw [hnum]
      unfold sib
      rw [if_pos he, digest_succ, base_even n k he, digest_set_out cells n v k (n / 2 ^ k * 2 ^ k + 2 ^ k) (by omega)]
    · rw [rooted_odd _ _ _ _ he, ih]
      unfold proof
      rw [hnum]
      have hb := base_odd n k he
      unfold sib
      rw [if_neg he, digest_succ, hb, ← hb, Nat.add_sub_cancel, digest_set_out cells n v k (n / 2 ^ (k + 1) * 2 ^ (k + 1)) (by omega)]
theorem root_proof (cells : List Int) (n : Nat) (hl : cells.length = 256) (hn : n < 256) (v : Int) (r : List UInt8) : rooted (proof cells n ++ r) v n 8 = root (cells.set n v) := by
  rw [rooted_proof cells n (by omega) v r 8 (Nat.le_refl _)]
  unfold root
  rw [show n / 2 ^ 8 * 2 ^ 8 = 0 by omega]
theorem set_getD (cells : List Int) (n : Nat) (hn : n < cells.length) : cells.set n (cells.getD n 0) = cells := by
  rw [List.getD_eq_getElem?_getD, List.getElem?_eq_getElem hn]
  simp
theorem root_proof_own (cells : List Int) (n : Nat) (hl : cells.length = 256) (hn : n < 256) (r : List UInt8) : rooted (proof cells n ++ r) (cells.getD n 0) n 8 = root cells := by
  rw [root_proof cells n hl hn, set_getD cells n (by omega)]
theorem proof_length (cells : List Int) (n : Nat) : (proof cells n).length = 20 := proofTo_length cells n 8

/-- A machine's own memory that writes down what proves each answer. -/
def recordMemo : Memo (List Int × List (List UInt8) × List UInt8) where
  load m n := some (if n ≥ 256 then (m, 0, 3) else ((m.1, m.2.1, m.2.2 ++ proof m.1 n.toNat), m.1.getD n.toNat 0, 0))
  store m n v := some (if n ≥ 256 then (m, 3) else ((m.1.set n.toNat v, m.2.1, m.2.2 ++ proof m.1 n.toNat), 0))
  source m name := some (match findSrc m.2.1 name with | none => (m, [], 5) | some l => ((m.1, m.2.1, m.2.2 ++ byteOf l.length :: l), l, 0))
/-- What a machine shows of its next step, behind the label. -/
def shown (m : Mach) : List UInt8 := match coreStep recordMemo m.s (m.cells, m.srcs, []) with
  | none => []
  | some r => r.2.1.2.2
theorem coreStep_record (m : Mach) (sh : List UInt8) : ∃ x, coreStep recordMemo m.s (m.cells, m.srcs, sh) = some (m.step.1.s, (m.step.1.cells, m.step.1.srcs, sh ++ x), m.step.2) ∧
    (m.step.2 ≠ 5 → m.Ok → ∀ T y, ∃ T', coreStep proofsMemo m.s ⟨x ++ y, root m.cells, T⟩ = some (m.step.1.s, ⟨y, root m.step.1.cells, T'⟩, m.step.2)) := by
  have hfit : ∀ (n : Int) (y : List UInt8) (T : List (List UInt8)), m.Ok → ¬ n ≥ 256 → 0 ≤ n → fitsNow ⟨proof m.cells n.toNat ++ y, root m.cells, T⟩ n.toNat = true := by
    intro n y T hok hn h0
    unfold fitsNow
    have hw : isWord (m.cells.getD n.toNat 0) := hok.cell n
    simp only [List.length_append, proof_length]
    rw [numTo_proof_word _ _ hw, root_proof_own _ _ hok.len (by omega)]
    simp
  have hdrop : ∀ (n : Nat) (y : List UInt8), (proof m.cells n ++ y).drop 20 = y := by
    intro n y
    have := List.drop_left (l₁ := proof m.cells n) (l₂ := y)
    rwa [proof_length] at this
  unfold Mach.step
  by_cases hov : m.s.over = true
  · refine ⟨[], ?_, fun _ _ T y => ⟨T, ?_⟩⟩
    · unfold coreStep; simp [hov]
    · rw [step_over _ _ hov]; simp [hov]
  have hov' : m.s.over = false := by simpa using hov
  simp only [hov', Bool.false_eq_true, if_false]
  by_cases hpc : m.s.pc ≥ 256
  · refine ⟨[], ?_, fun _ _ T y => ⟨T, ?_⟩⟩
    · unfold coreStep; simp [hov', recordMemo, hpc]
    · rw [step_far _ _ hov' hpc]; simp [hpc]
  simp only [hpc, if_false]
  have e1 : ∀ sh, recordMemo.load (m.cells, m.srcs, sh) m.s.pc = some ((m.cells, m.srcs, sh ++ proof m.cells m.s.pc.toNat), m.cell m.s.pc, 0) := by intro sh; simp [recordMemo, hpc, Mach.cell]
  have e2 : ∀ (z : List UInt8) (T : List (List UInt8)), m.Ok → coreStep proofsMemo m.s ⟨proof m.cells m.s.pc.toNat ++ z, root m.cells, T⟩ = behind m.s ⟨proof m.cells m.s.pc.toNat ++ z, root m.cells, T⟩ := by
    intro z T hok
    have := hok.s.pc
    unfold isWord at this
    exact step_fit _ _ hov' hpc (hfit _ _ _ hok hpc this.1)
  have e3 : ∀ (z : List UInt8) (T : List (List UInt8)), m.Ok → ∃ T', behind m.s ⟨proof m.cells m.s.pc.toNat ++ z, root m.cells, T⟩ = match perform proofsMemo m.s ⟨z, root m.cells, T'⟩ (decode (m.cell m.s.pc)) with
      | none => none
      | some q => if q.2.2 ≠ 0 then some q else some ({ q.1 with steps := wrap (q.1.steps + 1) }, q.2.1, 0) := by
    intro z T hok
    unfold behind
    simp only [hdrop, numTo_proof_word _ _ (hok.cell m.s.pc)]
    exact ⟨_, rfl⟩
  unfold coreStep
  simp only [hov', Bool.false_eq_true, if_false, e1, ne_eq, not_true_eq_false]
  generalize hi : decode (m.cell m.s.pc) = i at *
  by_cases h13 : i.op = 13
  · simp only [h13, true_or, if_true]
    by_cases hn : wrap (m.s.reg i.b + i.n) ≥ 256
    · refine ⟨proof m.cells m.s.pc.toNat, ?_, fun _ hok T y => ?_⟩
      · simp [perform, h13, recordMemo, hn]
      · obtain ⟨T', h⟩ := e3 y T hok
        refine ⟨T', ?_⟩
        have h2 := e2 y T hok
        unfold coreStep at h2
        simp only [hov', Bool.false_eq_true, if_false] at h2
        rw [h2, h]
        simp [perform, h13, proofsMemo, hn]
    · have hw := wrap_word (m.s.reg i.b + i.n)
      unfold isWord at hw
      refine ⟨proof m.cells m.s.pc.toNat ++ proof m.cells (wrap (m.s.reg i.b + i.n)).toNat, ?_, fun _ hok T y => ?_⟩
      · simp [perform, h13, recordMemo, hn, moved, putted, Mach.cell]
      · obtain ⟨T', h⟩ := e3 (proof m.cells (wrap (m.s.reg i.b + i.n)).toNat ++ y) T hok
        refine ⟨T' ++ pfTexts (proof m.cells (wrap (m.s.reg i.b + i.n)).toNat ++ y) (wrap (m.s.reg i.b + i.n)).toNat, ?_⟩
        have h2 := e2 (proof m.cells (wrap (m.s.reg i.b + i.n)).toNat ++ y) T hok
        unfold coreStep at h2
        simp only [hov', Bool.false_eq_true, if_false] at h2
        rw [List.append_assoc, h2, h]
        have hf := hfit _ y T' hok hn hw.1
        simp only [perform, h13, proofsMemo, hn, hf, if_true, if_false, ne_eq, not_true_eq_false, hdrop]
        rw [numTo_proof_word _ _ (hok.cell _)]
        simp [moved, putted, Mach.cell]
  by_cases h14 : i.op = 14
  · simp only [h14, or_true, if_true]
    by_cases hn : wrap (m.s.reg i.b + i.n) ≥ 256
    · refine ⟨proof m.cells m.s.pc.toNat, ?_, fun _ hok T y => ?_⟩
      · simp [perform, h14, recordMemo, hn]
      · obtain ⟨T', h⟩ := e3 y T hok
        refine ⟨T', ?_⟩
        have h2 := e2 y T hok
        unfold coreStep at h2
        simp only [hov', Bool.false_eq_true, if_false] at h2
        rw [h2, h]
        simp [perform, h14, proofsMemo, hn]
    · have hw := wrap_word (m.s.reg i.b + i.n)
      unfold isWord at hw
      refine ⟨proof m.cells m.s.pc.toNat ++ proof m.cells (wrap (m.s.reg i.b + i.n)).toNat, ?_, fun _ hok T y => ?_⟩
      · simp [perform, h14, recordMemo, hn, moved]
      · obtain ⟨T', h⟩ := e3 (proof m.cells (wrap (m.s.reg i.b + i.n)).toNat ++ y) T hok
        refine ⟨T' ++ pfTexts (proof m.cells (wrap (m.s.reg i.b + i.n)).toNat ++ y) (wrap (m.s.reg i.b + i.n)).toNat, ?_⟩
        have h2 := e2 (proof m.cells (wrap (m.s.reg i.b + i.n)).toNat ++ y) T hok
        unfold coreStep at h2
        simp only [hov', Bool.false_eq_true, if_false] at h2
        rw [List.append_assoc, h2, h]
        have hf := hfit _ y T' hok hn hw.1
        simp only [perform, h14, proofsMemo, hn, hf, if_true, if_false, ne_eq, not_true_eq_false, hdrop]
        rw [root_proof _ _ hok.len (by omega)]
        simp [moved]
  by_cases h19 : i.op = 19
  · simp only [h19, if_true]
    cases hf : findSrc m.srcs (m.s.reg i.b) with
    | none =>
      refine ⟨proof m.cells m.s.pc.toNat, ?_, fun h5 => absurd rfl h5⟩
      simp [perform, h19, recordMemo, hf]
    | some l =>
      refine ⟨proof m.cells m.s.pc.toNat ++ byteOf l.length :: l, ?_, fun _ hok T y => ?_⟩
      · simp [perform, h19, recordMemo, hf, moved, putted]
      · obtain ⟨T', h⟩ := e3 (byteOf l.length :: l ++ y) T hok
        refine ⟨T' ++ [l], ?_⟩
        have h2 := e2 (byteOf l.length :: l ++ y) T hok
        unfold coreStep at h2
        simp only [hov', Bool.false_eq_true, if_false] at h2
        rw [List.append_assoc, h2, h]
        have hmem : l ∈ m.srcs := List.mem_of_find?_eq_some hf
        have hsum : sum l = m.s.reg i.b := by
          have := List.find?_some hf
          simpa using this
        have hl200 := hok.src l hmem
        have hsz : srcSize (byteOf l.length :: l ++ y) = l.length := by
          show (byteOf (l.length : Int)).toNat = l.length
          have := byteOf_num (l.length : Int) (by omega)
          omega
        have hnx : srcNext (byteOf l.length :: l ++ y) = l := by
          unfold srcNext
          rw [hsz]
          simp
        have hth : srcThere (byteOf l.length :: l ++ y) (m.s.reg i.b) = true := by
          unfold srcThere
          rw [hsz, hnx, hsum]
          simp
          omega
        have hsrc : proofsMemo.source ⟨byteOf l.length :: l ++ y, root m.cells, T'⟩ (m.s.reg i.b) = some (⟨y, root m.cells, T' ++ [l]⟩, l, 0) := by
          simp only [proofsMemo, hth, if_true, hsz, hnx]
          have e : (byteOf l.length :: l ++ y).drop (1 + l.length) = y := by
            rw [Nat.add_comm, List.cons_append, List.drop_succ_cons, List.drop_left]
          rw [e]
        simp only [perform, h19, hsrc]
        simp [moved, putted]
  simp only [h13, h14, h19, or_self, if_false]
  have hst := still_step m.s i
  refine ⟨proof m.cells m.s.pc.toNat, ?_, fun _ hok T y => ?_⟩
  · simp only [perform, h13, h14, h19, if_false]
    generalize still m.s i = q at *
    generalize plain m.s i = r at *
    by_cases hq : q.2 = 0
    · rw [if_neg (by simpa using hq)] at hst
      rw [← hst]; simp [hq]
    · rw [if_pos hq] at hst
      rw [← hst]; simp [hq]
  · obtain ⟨T', h⟩ := e3 y T hok
    refine ⟨T', ?_⟩
    have h2 := e2 y T hok
    unfold coreStep at h2
    simp only [hov', Bool.false_eq_true, if_false] at h2
    rw [h2, h]
    simp only [perform, h13, h14, h19, if_false]
    generalize still m.s i = q at *
    generalize plain m.s i = r at *
    by_cases hq : q.2 = 0
    · rw [if_neg (by simpa using hq)] at hst
      rw [← hst]; simp [hq]
    · rw [if_pos hq] at hst
      rw [← hst]; simp [hq]
end Dp
end Go.Proofs.YtdipojfngdceoaaDoor

/- Two witnesses of one stamp: they tell the same, or two texts with one sum stand where they first part. No program is named here. -/
namespace Go.Proofs.YtdipojfngdceoaaDoor
open Go.RowKit

namespace Dp
/-- Where two lists of texts first part they have one sum. -/
def Clash (X Y : List (List UInt8)) : Prop := ∃ n, ∃ h1 : n < X.length, ∃ h2 : n < Y.length, X.take n = Y.take n ∧ X[n] ≠ Y[n] ∧ sum X[n] = sum Y[n]
theorem Clash.append {X Y : List (List UInt8)} (h : Clash X Y) (A B : List (List UInt8)) : Clash (X ++ A) (Y ++ B) := by
  obtain ⟨n, h1, h2, h3, h4, h5⟩ := h
  refine ⟨n, by rw [List.length_append]; omega, by rw [List.length_append]; omega, ?_, ?_, ?_⟩
  · rw [List.take_append_of_le_length (by omega), List.take_append_of_le_length (by omega)]; exact h3
  · rw [List.getElem_append_left h1, List.getElem_append_left h2]; exact h4
  · rw [List.getElem_append_left h1, List.getElem_append_left h2]; exact h5
theorem Clash.behind {X Y : List (List UInt8)} (h : Clash X Y) (T : List (List UInt8)) : Clash (T ++ X) (T ++ Y) := by
  obtain ⟨n, h1, h2, h3, h4, h5⟩ := h
  have e1 : (T ++ X)[T.length + n]'(by rw [List.length_append]; omega) = X[n] := by rw [List.getElem_append_right (by omega)]; simp
  have e2 : (T ++ Y)[T.length + n]'(by rw [List.length_append]; omega) = Y[n] := by rw [List.getElem_append_right (by omega)]; simp
  refine ⟨T.length + n, by rw [List.length_append]; omega, by rw [List.length_append]; omega, ?_, ?_, ?_⟩
  · rw [List.take_length_add_append, List.take_length_add_append, h3]
  · rw [e1, e2]; exact h4
  · rw [e1, e2]; exact h5
theorem Clash.one {a b : List UInt8} (h : a ≠ b) (hs : sum a = sum b) : Clash [a] [b] := ⟨0, by simp, by simp, rfl, h, hs⟩

theorem two_inj {x y : Int} (hx : 0 ≤ x ∧ x < 65536) (hy : 0 ≤ y ∧ y < 65536) (h : two x = two y) : x = y := by
  rw [← numTo_two_back x hx [], ← numTo_two_back y hy [], h]
theorem four_inj {x y : Int} (hx : isWord x) (hy : isWord y) (h : four x = four y) : x = y := by
  rw [← numTo_four_back x hx [], ← numTo_four_back y hy [], h]
theorem halves_inj {a b c d : Int} (h : halvesText a b = halvesText c d) : two a = two c ∧ two b = two d := by
  unfold halvesText at h
  simp only [List.cons.injEq, true_and] at h
  exact List.append_inj h rfl
theorem sum_two {l : List UInt8} : 0 ≤ sum l ∧ sum l < 65536 := by have := sum_bd l; omega
theorem others_getD (l : List UInt8) (k : Nat) (h : k < 8) : (others l 8).getD k 0 = numTo l (4 + 2 * k) 2 := by
  unfold others
  rw [List.getD_eq_getElem?_getD, List.getElem?_map, List.getElem?_range h]; rfl
theorem others_two (l : List UInt8) (k : Nat) : 0 ≤ (others l 8).getD k 0 ∧ (others l 8).getD k 0 < 65536 := getD_word (others_bd l 8) k
/-- Two texts of one layer: with them the sums one layer down, and the digest beside, are the same. -/
theorem ptext_down {w1 w2 : Int} {l1 l2 : List UInt8} {n k : Nat} (hk : k < 8) (h : ptext w1 (others l1 8) n (k + 1) = ptext w2 (others l2 8) n (k + 1)) :
    sum (ptext w1 (others l1 8) n k) = sum (ptext w2 (others l2 8) n k) ∧ numTo l1 (4 + 2 * k) 2 = numTo l2 (4 + 2 * k) 2 := by
  have o1 := others_two l1 k
  have o2 := others_two l2 k
  unfold ptext at h
  by_cases he : n / 2 ^ k % 2 = 0
  · rw [if_pos he, if_pos he] at h
    obtain ⟨a, b⟩ := halves_inj h
    refine ⟨two_inj sum_two sum_two a, ?_⟩
    rw [← others_getD l1 k hk, ← others_getD l2 k hk]
    exact two_inj o1 o2 b
  · rw [if_neg he, if_neg he] at h
    obtain ⟨a, b⟩ := halves_inj h
    refine ⟨two_inj sum_two sum_two b, ?_⟩
    rw [← others_getD l1 k hk, ← others_getD l2 k hk]
    exact two_inj o1 o2 a
theorem pfTexts_get (l : List UInt8) (n j : Nat) (h : j < (pfTexts l n).length) : (pfTexts l n)[j] = ptext (numTo l 0 4) (others l 8) n (8 - j) := by
  simp [pfTexts]
theorem pf_clash (l1 l2 : List UInt8) (n : Nat) (hs : sum (ptext (numTo l1 0 4) (others l1 8) n 8) = sum (ptext (numTo l2 0 4) (others l2 8) n 8)) :
    Clash (pfTexts l1 n) (pfTexts l2 n) ∨ ∀ k, k ≤ 8 → ptext (numTo l1 0 4) (others l1 8) n k = ptext (numTo l2 0 4) (others l2 8) n k := by
  have key : ∀ j, j ≤ 9 → Clash (pfTexts l1 n) (pfTexts l2 n) ∨ ((∀ i, i < j → ptext (numTo l1 0 4) (others l1 8) n (8 - i) = ptext (numTo l2 0 4) (others l2 8) n (8 - i)) ∧ (j ≤ 8 → sum (ptext (numTo l1 0 4) (others l1 8) n (8 - j)) = sum (ptext (numTo l2 0 4) (others l2 8) n (8 - j)))) := by
    intro j
    induction j with
    | zero => intro _; exact .inr ⟨fun i hi => by omega, fun _ => hs⟩
    | succ j ih =>
      intro hj
      rcases ih (by omega) with h | ⟨h1, h2⟩
      · exact .inl h
      · by_cases he : ptext (numTo l1 0 4) (others l1 8) n (8 - j) = ptext (numTo l2 0 4) (others l2 8) n (8 - j)
        · refine .inr ⟨fun i hi => ?_, fun h8 => ?_⟩
          · by_cases e : i = j
            · subst e; exact he
            · exact h1 i (by omega)
          · have e : 8 - j = (8 - (j + 1)) + 1 := by omega
            rw [e] at he
            exact (ptext_down (by omega) he).1
        · refine .inl ⟨j, by rw [pfTexts_length]; omega, by rw [pfTexts_length]; omega, ?_, ?_, ?_⟩
          · apply List.ext_getElem
            · simp [pfTexts_length]
            · intro i a1 a2
              rw [List.getElem_take, List.getElem_take, pfTexts_get, pfTexts_get]
              exact h1 i (by rw [List.length_take] at a1; omega)
          · rw [pfTexts_get, pfTexts_get]; exact he
          · rw [pfTexts_get, pfTexts_get]; exact h2 (by omega)
  rcases key 9 (Nat.le_refl _) with h | ⟨h1, _⟩
  · exact .inl h
  · refine .inr fun k hk => ?_
    have := h1 (8 - k) (by omega)
    rwa [show 8 - (8 - k) = k by omega] at this
theorem pf_same {l1 l2 : List UInt8} {n : Nat} (h : ∀ k, k ≤ 8 → ptext (numTo l1 0 4) (others l1 8) n k = ptext (numTo l2 0 4) (others l2 8) n k) :
    numTo l1 0 4 = numTo l2 0 4 ∧ (∀ v k, k ≤ 8 → rooted l1 v n k = rooted l2 v n k) ∧ pfTexts l1 n = pfTexts l2 n := by
  have hw : numTo l1 0 4 = numTo l2 0 4 := by
    have h0 := h 0 (by omega)
    have e : cellText (numTo l1 0 4) = cellText (numTo l2 0 4) := h0
    unfold cellText at e
    simp only [List.cons.injEq, true_and] at e
    exact four_inj (numTo_bd l1 0 4 (Nat.le_refl _)) (numTo_bd l2 0 4 (Nat.le_refl _)) e
  refine ⟨hw, ?_, ?_⟩
  · intro v k
    induction k with
    | zero => intro _; rfl
    | succ k ih =>
      intro hk
      unfold rooted
      rw [ih (by omega), (ptext_down (by omega) (h (k + 1) hk)).2]
  · apply List.ext_getElem
    · simp [pfTexts_length]
    · intro i a1 a2
      rw [pfTexts_get, pfTexts_get]
      exact h (8 - i) (by omega)

/-- Two memories of proofs that have told the same till now. -/
structure Like (a b : Pm) : Prop where
  root : a.root = b.root
  texts : a.texts = b.texts

theorem fits_sum {m : Pm} {n : Nat} (h : fitsNow m n = true) : sum (ptext (numTo m.rest 0 4) (others m.rest 8) n 8) = m.root := by
  unfold fitsNow at h
  simp only [Bool.and_eq_true, beq_iff_eq] at h
  rw [ptext_rooted _ _ _ 8 (Nat.le_refl _)]
  exact h.2
theorem load_agree {a b : Pm} (hl : Like a b) {n : Int} {ra rb : Pm × Int × Int} (ha : proofsMemo.load a n = some ra) (hb : proofsMemo.load b n = some rb) :
    Clash ra.1.texts rb.1.texts ∨ (Like ra.1 rb.1 ∧ ra.2 = rb.2) := by
  simp only [proofsMemo] at ha hb
  by_cases hn : n ≥ 256
  · rw [if_pos hn] at ha hb
    simp only [Option.some.injEq] at ha hb
    subst ha hb
    exact .inr ⟨hl, rfl⟩
  · rw [if_neg hn] at ha hb
    cases fa : fitsNow a n.toNat with
    | false => rw [fa] at ha; simp at ha
    | true =>
      cases fb : fitsNow b n.toNat with
      | false => rw [fb] at hb; simp at hb
      | true =>
        rw [fa] at ha
        rw [fb] at hb
        simp only [if_true, Option.some.injEq] at ha hb
        subst ha hb
        have hs : sum (ptext (numTo a.rest 0 4) (others a.rest 8) n.toNat 8) = sum (ptext (numTo b.rest 0 4) (others b.rest 8) n.toNat 8) := by rw [fits_sum fa, fits_sum fb, hl.root]
        rcases pf_clash _ _ _ hs with h | h
        · left
          show Clash (a.texts ++ _) (b.texts ++ _)
          rw [hl.texts]
          exact h.behind _
        · obtain ⟨h1, h2, h3⟩ := pf_same h
          right
          exact ⟨⟨hl.root, by show a.texts ++ _ = b.texts ++ _; rw [hl.texts, h3]⟩, by rw [h1]⟩
theorem store_agree {a b : Pm} (hl : Like a b) {n v : Int} {ra rb : Pm × Int} (ha : proofsMemo.store a n v = some ra) (hb : proofsMemo.store b n v = some rb) :
    Clash ra.1.texts rb.1.texts ∨ (Like ra.1 rb.1 ∧ ra.2 = rb.2) := by
  simp only [proofsMemo] at ha hb
  by_cases hn : n ≥ 256
  · rw [if_pos hn] at ha hb
    simp only [Option.some.injEq] at ha hb
    subst ha hb
    exact .inr ⟨hl, rfl⟩
  · rw [if_neg hn] at ha hb
    cases fa : fitsNow a n.toNat with
    | false => rw [fa] at ha; simp at ha
    | true =>
      cases fb : fitsNow b n.toNat with
      | false => rw [fb] at hb; simp at hb
      | true =>
        rw [fa] at ha
        rw [fb] at hb
        simp only [if_true, Option.some.injEq] at ha hb
        subst ha hb
        have hs : sum (ptext (numTo a.rest 0 4) (others a.rest 8) n.toNat 8) = sum (ptext (numTo b.rest 0 4) (others b.rest 8) n.toNat 8) := by rw [fits_sum fa, fits_sum fb, hl.root]
        rcases pf_clash _ _ _ hs with h | h
        · left
          show Clash (a.texts ++ _) (b.texts ++ _)
          rw [hl.texts]
          exact h.behind _
        · obtain ⟨h1, h2, h3⟩ := pf_same h
          right
          exact ⟨⟨h2 v 8 (Nat.le_refl _), by show a.texts ++ _ = b.texts ++ _; rw [hl.texts, h3]⟩, rfl⟩
theorem source_agree {a b : Pm} (hl : Like a b) {n : Int} {ra rb : Pm × List UInt8 × Int} (ha : proofsMemo.source a n = some ra) (hb : proofsMemo.source b n = some rb) :
    Clash ra.1.texts rb.1.texts ∨ (Like ra.1 rb.1 ∧ ra.2 = rb.2) := by
  simp only [proofsMemo] at ha hb
  cases fa : srcThere a.rest n with
  | false => rw [fa] at ha; simp at ha
  | true =>
    cases fb : srcThere b.rest n with
    | false => rw [fb] at hb; simp at hb
    | true =>
      rw [fa] at ha
      rw [fb] at hb
      simp only [if_true, Option.some.injEq] at ha hb
      subst ha hb
      unfold srcThere at fa fb
      simp only [Bool.and_eq_true, beq_iff_eq] at fa fb
      by_cases he : srcNext a.rest = srcNext b.rest
      · right
        exact ⟨⟨hl.root, by show a.texts ++ _ = b.texts ++ _; rw [hl.texts, he]⟩, by rw [he]⟩
      · left
        show Clash (a.texts ++ _) (b.texts ++ _)
        rw [hl.texts]
        exact (Clash.one he (fa.2.trans fb.2.symm)).behind _
theorem perform_agree {a b : Pm} (hl : Like a b) (s : Cs) (i : Ins) {ra rb : Cs × Pm × Int} (ha : perform proofsMemo s a i = some ra) (hb : perform proofsMemo s b i = some rb) :
    Clash ra.2.1.texts rb.2.1.texts ∨ (ra.1 = rb.1 ∧ Like ra.2.1 rb.2.1 ∧ ra.2.2 = rb.2.2) := by
  unfold perform at ha hb
  by_cases h13 : i.op = 13
  · rw [if_pos h13] at ha hb
    cases la : proofsMemo.load a (wrap (s.reg i.b + i.n)) with
    | none => rw [la] at ha; simp at ha
    | some qa =>
      cases lb : proofsMemo.load b (wrap (s.reg i.b + i.n)) with
      | none => rw [lb] at hb; simp at hb
      | some qb =>
        rw [la] at ha
        rw [lb] at hb
        simp only at ha hb
        rcases load_agree hl la lb with h | ⟨h1, h2⟩
        · left
          split at ha <;> split at hb <;> (simp only [Option.some.injEq] at ha hb; subst ha hb; exact h)
        · right
          rw [h2] at ha
          split at ha
          · rename_i hz
            rw [if_pos hz] at hb
            simp only [Option.some.injEq] at ha hb
            subst ha hb
            exact ⟨rfl, h1, rfl⟩
          · rename_i hz
            rw [if_neg hz] at hb
            simp only [Option.some.injEq] at ha hb
            subst ha hb
            exact ⟨rfl, h1, rfl⟩
  rw [if_neg h13] at ha hb
  by_cases h14 : i.op = 14
  · rw [if_pos h14] at ha hb
    cases la : proofsMemo.store a (wrap (s.reg i.b + i.n)) (s.reg i.a) with
    | none => rw [la] at ha; simp at ha
    | some qa =>
      cases lb : proofsMemo.store b (wrap (s.reg i.b + i.n)) (s.reg i.a) with
      | none => rw [lb] at hb; simp at hb
      | some qb =>
        rw [la] at ha
        rw [lb] at hb
        simp only at ha hb
        rcases store_agree hl la lb with h | ⟨h1, h2⟩
        · left
          split at ha <;> split at hb <;> (simp only [Option.some.injEq] at ha hb; subst ha hb; exact h)
        · right
          rw [h2] at ha
          split at ha
          · rename_i hz
            rw [if_pos hz] at hb
            simp only [Option.some.injEq] at ha hb
            subst ha hb
            exact ⟨rfl, h1, rfl⟩
          · rename_i hz
            rw [if_neg hz] at hb
            simp only [Option.some.injEq] at ha hb
            subst ha hb
            exact ⟨rfl, h1, rfl⟩
  rw [if_neg h14] at ha hb
  by_cases h19 : i.op = 19
  · rw [if_pos h19] at ha hb
    cases la : proofsMemo.source a (s.reg i.b) with
    | none => rw [la] at ha; simp at ha
    | some qa =>
      cases lb : proofsMemo.source b (s.reg i.b) with
      | none => rw [lb] at hb; simp at hb
      | some qb =>
        rw [la] at ha
        rw [lb] at hb
        simp only at ha hb
        rcases source_agree hl la lb with h | ⟨h1, h2⟩
        · left
          split at ha <;> split at hb <;> (simp only [Option.some.injEq] at ha hb; subst ha hb; exact h)
        · right
          rw [h2] at ha
          split at ha
          · rename_i hz
            rw [if_pos hz] at hb
            simp only [Option.some.injEq] at ha hb
            subst ha hb
            exact ⟨rfl, h1, rfl⟩
          · rename_i hz
            rw [if_neg hz] at hb
            simp only [Option.some.injEq] at ha hb
            subst ha hb
            exact ⟨rfl, h1, rfl⟩
  rw [if_neg h19] at ha hb
  simp only [Option.some.injEq] at ha hb
  subst ha hb
  exact .inr ⟨rfl, hl, rfl⟩
theorem perform_more (s : Cs) (a : Pm) (i : Ins) {ra : Cs × Pm × Int} (ha : perform proofsMemo s a i = some ra) : ∃ X, ra.2.1.texts = a.texts ++ X := by
  unfold perform at ha
  by_cases h13 : i.op = 13
  · rw [if_pos h13] at ha
    cases la : proofsMemo.load a (wrap (s.reg i.b + i.n)) with
    | none => rw [la] at ha; simp at ha
    | some qa =>
      rw [la] at ha
      simp only at ha
      have : ∃ X, qa.1.texts = a.texts ++ X := by
        simp only [proofsMemo] at la
        split at la
        · simp only [Option.some.injEq] at la; subst la; exact ⟨[], by simp⟩
        · split at la
          · simp only [Option.some.injEq] at la; subst la; exact ⟨_, rfl⟩
          · simp at la
      split at ha <;> (simp only [Option.some.injEq] at ha; subst ha; exact this)
  rw [if_neg h13] at ha
  by_cases h14 : i.op = 14
  · rw [if_pos h14] at ha
    cases la : proofsMemo.store a (wrap (s.reg i.b + i.n)) (s.reg i.a) with
    | none => rw [la] at ha; simp at ha
    | some qa =>
      rw [la] at ha
      simp only at ha
      have : ∃ X, qa.1.texts = a.texts ++ X := by
        simp only [proofsMemo] at la
        split at la
        · simp only [Option.some.injEq] at la; subst la; exact ⟨[], by simp⟩
        · split at la
          · simp only [Option.some.injEq] at la; subst la; exact ⟨_, rfl⟩
          · simp at la
      split at ha <;> (simp only [Option.some.injEq] at ha; subst ha; exact this)
  rw [if_neg h14] at ha
  by_cases h19 : i.op = 19
  · rw [if_pos h19] at ha
    cases la : proofsMemo.source a (s.reg i.b) with
    | none => rw [la] at ha; simp at ha
    | some qa =>
      rw [la] at ha
      simp only at ha
      have : ∃ X, qa.1.texts = a.texts ++ X := by
        simp only [proofsMemo] at la
        split at la
        · simp only [Option.some.injEq] at la; subst la; exact ⟨_, rfl⟩
        · simp at la
      split at ha <;> (simp only [Option.some.injEq] at ha; subst ha; exact this)
  rw [if_neg h19] at ha
  simp only [Option.some.injEq] at ha
  subst ha
  exact ⟨[], by simp⟩
theorem step_agree {a b : Pm} (hl : Like a b) (s : Cs) {ra rb : Cs × Pm × Int} (ha : coreStep proofsMemo s a = some ra) (hb : coreStep proofsMemo s b = some rb) :
    Clash ra.2.1.texts rb.2.1.texts ∨ (ra.1 = rb.1 ∧ ra.2.1.root = rb.2.1.root ∧ ra.2.2 = rb.2.2) := by
  unfold coreStep at ha hb
  by_cases hov : s.over = true
  · rw [if_pos hov] at ha hb
    simp only [Option.some.injEq] at ha hb
    subst ha hb
    exact .inr ⟨rfl, hl.root, rfl⟩
  rw [if_neg hov] at ha hb
  cases la : proofsMemo.load a s.pc with
  | none => rw [la] at ha; simp at ha
  | some qa =>
    cases lb : proofsMemo.load b s.pc with
    | none => rw [lb] at hb; simp at hb
    | some qb =>
      rw [la] at ha
      rw [lb] at hb
      simp only at ha hb
      have stA : ∃ X, ra.2.1.texts = qa.1.texts ++ X := by
        have h := ha
        split at h
        · simp only [Option.some.injEq] at h; subst h; exact ⟨[], by simp⟩
        · cases hp : perform proofsMemo s qa.1 (decode qa.2.1) with
          | none => rw [hp] at h; simp at h
          | some p =>
            rw [hp] at h
            simp only at h
            obtain ⟨X, hX⟩ := perform_more s qa.1 _ hp
            split at h <;> (simp only [Option.some.injEq] at h; subst h; exact ⟨X, hX⟩)
      have stB : ∃ X, rb.2.1.texts = qb.1.texts ++ X := by
        have h := hb
        split at h
        · simp only [Option.some.injEq] at h; subst h; exact ⟨[], by simp⟩
        · cases hp : perform proofsMemo s qb.1 (decode qb.2.1) with
          | none => rw [hp] at h; simp at h
          | some p =>
            rw [hp] at h
            simp only at h
            obtain ⟨X, hX⟩ := perform_more s qb.1 _ hp
            split at h <;> (simp only [Option.some.injEq] at h; subst h; exact ⟨X, hX⟩)
      rcases load_agree hl la lb with h | ⟨h1, h2⟩
      · left
        obtain ⟨X, hX⟩ := stA
        obtain ⟨Y, hY⟩ := stB
        rw [hX, hY]
        exact h.append X Y
      · rw [h2] at ha
        split at ha
        · rename_i hz
          rw [if_pos hz] at hb
          simp only [Option.some.injEq] at ha hb
          subst ha hb
          exact .inr ⟨rfl, h1.root, rfl⟩
        · rename_i hz
          rw [if_neg hz] at hb
          cases pa : perform proofsMemo s qa.1 (decode qb.2.1) with
          | none => rw [pa] at ha; simp at ha
          | some p =>
            cases pb : perform proofsMemo s qb.1 (decode qb.2.1) with
            | none => rw [pb] at hb; simp at hb
            | some q =>
              rw [pa] at ha
              rw [pb] at hb
              simp only at ha hb
              rcases perform_agree h1 s _ pa pb with h | ⟨e1, e2, e3⟩
              · left
                split at ha <;> split at hb <;> (simp only [Option.some.injEq] at ha hb; subst ha hb; exact h)
              · right
                rw [e3] at ha
                split at ha
                · rename_i hz2
                  rw [if_pos hz2] at hb
                  simp only [Option.some.injEq] at ha hb
                  subst ha hb
                  exact ⟨e1, e2.root, e3⟩
                · rename_i hz2
                  rw [if_neg hz2] at hb
                  simp only [Option.some.injEq] at ha hb
                  subst ha hb
                  exact ⟨by simp only [e1], e2.root, rfl⟩
/-- All texts that were believed, the label's first. -/
def believed (l : List UInt8) (r : Cs × Pm × Int) : List (List UInt8) := label (unlab l) (unroot l) :: r.2.1.texts
theorem heard_agree (S : Int) (l1 l2 : List UInt8) {r1 r2 : Cs × Pm × Int} (h1 : heard S l1 = some r1) (h2 : heard S l2 = some r2) :
    Clash (believed l1 r1) (believed l2 r2) ∨ (r1.1 = r2.1 ∧ r1.2.1.root = r2.2.1.root ∧ r1.2.2 = r2.2.2) := by
  have open_ : ∀ (l : List UInt8) (r : Cs × Pm × Int), heard S l = some r → 47 ≤ l.length ∧ (l.getD 12 0).toNat ≤ 1 ∧ sum (label (unlab l) (unroot l)) = S ∧ coreStep proofsMemo (unlab l) ⟨l.drop 47, unroot l, []⟩ = some r := by
    intro l r h
    unfold heard at h
    split at h
    · rename_i hc
      cases hs : coreStep proofsMemo (unlab l) ⟨l.drop 47, unroot l, []⟩ with
      | none => rw [hs] at h; simp at h
      | some q =>
        rw [hs] at h
        simp only at h
        split at h
        · simp only [Option.some.injEq] at h
          subst h
          exact ⟨hc.1, hc.2.1, hc.2.2, rfl⟩
        · simp at h
    · simp at h
  obtain ⟨a1, a2, a3, a4⟩ := open_ l1 r1 h1
  obtain ⟨b1, b2, b3, b4⟩ := open_ l2 r2 h2
  unfold believed
  by_cases he : label (unlab l1) (unroot l1) = label (unlab l2) (unroot l2)
  · have ht : l1.take 47 = l2.take 47 := by rw [← label_unlab l1 a1 a2, ← label_unlab l2 b1 b2]; exact he
    have hu : unlab l1 = unlab l2 := by rw [← unlab_take l1, ← unlab_take l2, ht]
    have hr : unroot l1 = unroot l2 := by rw [← unroot_take l1, ← unroot_take l2, ht]
    rw [hu] at a4
    rcases step_agree (a := ⟨l1.drop 47, unroot l1, []⟩) (b := ⟨l2.drop 47, unroot l2, []⟩) ⟨hr, rfl⟩ _ a4 b4 with h | h
    · left
      rw [he]
      exact h.behind [label (unlab l2) (unroot l2)]
    · exact .inr h
  · left
    exact (Clash.one he (a3.trans b3.symm)).append _ _
end Dp
end Go.Proofs.YtdipojfngdceoaaDoor

/- In a region that draws its order: two operations may come up. It holds of every program. -/
namespace Go.Proofs.YtdipojfngdceoaaDoor
namespace Dp
open Go

section
variable {P : Program} {md : Region.Mode} {ops : Array Oper} {Q : Exit → Act → World → Prop} {S : World → Prop} {n : Nat}
theorem wpAnyL_both (i j : Nat) {oi oj : Oper} {fuel : Nat} {listed : Array Bool} {a : Act} {w : World} (hi : ops[i]? = some oi) (hj : ops[j]? = some oj) (hr : Region.ready md ops listed = [i, j]) (hgi : Region.wanted oi (yielded ops a.tmps) = true) (hgj : Region.wanted oj (yielded ops a.tmps) = true)
    (h1 : ∀ K : Act → World → Prop, (∀ a' w', (i < n → S w') ∧ wpAnyL P md ops Q S n fuel (listed.setIfInBounds i true) a' w' → K a' w') → oi.wp P a w K Q)
    (h2 : ∀ K : Act → World → Prop, (∀ a' w', (j < n → S w') ∧ wpAnyL P md ops Q S n fuel (listed.setIfInBounds j true) a' w' → K a' w') → oj.wp P a w K Q) : wpAnyL P md ops Q S n (fuel + 1) listed a w := by
  refine ⟨fun h0 => (by rw [hr] at h0; cases h0), fun k hk => ?_⟩
  rw [hr] at hk
  simp only [List.mem_cons, List.not_mem_nil, or_false] at hk
  rcases hk with rfl | rfl
  · unfold wpOp
    simp only [hi, hgi, if_true]
    exact .inl (h1 _ (fun _ _ h => h))
  · unfold wpOp
    simp only [hj, hgj, if_true]
    exact .inl (h2 _ (fun _ _ h => h))
end
end Dp
end Go.Proofs.YtdipojfngdceoaaDoor
