/- Steps on the way: PureSound, ErrLaid. -/
import Derived.Test.YtdipojfngdceoaaDoorPack40
import Derived.Test.YtdipojfngdceoaaDoorPack52
import Derived.Test.YtdipojfngdceoaaDoorRows
import Derived.LaidLaws
import Derived.LaidSub
/- Two witnesses of one stamp: they tell the same, or two texts with one sum stand where they first part. No program is named here. -/
namespace Go.Proofs.YtdipojfngdceoaaDoor
open Go.RowKit

namespace Dp
/-- Where two lists of texts first part they have one sum. -/
def Clash (X Y : List (List UInt8)) : Prop := ∃ n, ∃ h1 : n < X.length, ∃ h2 : n < Y.length, X.take n = Y.take n ∧ X[n] ≠ Y[n] ∧ sum X[n] = sum Y[n]
theorem Clash.append {X Y : List (List UInt8)} (h : Clash X Y) (A B : List (List UInt8)) : Clash (X ++ A) (Y ++ B) := by
  obtain ⟨n, h1, h2, h3, h4, h5⟩ := h
  refine ⟨n, by rw [List.length_append]; omega, by rw [List.length_append]; omega, ?_, ?_, ?_⟩
  · rw [List.take_append_of_le_length (by omega), List.take_append_of_le_length (by omega)]; exact h3
  · rw [List.getElem_append_left h1, List.getElem_append_left h2]; exact h4
  · rw [List.getElem_append_left h1, List.getElem_append_left h2]; exact h5
theorem Clash.behind {X Y : List (List UInt8)} (h : Clash X Y) (T : List (List UInt8)) : Clash (T ++ X) (T ++ Y) := by
  obtain ⟨n, h1, h2, h3, h4, h5⟩ := h
  have e1 : (T ++ X)[T.length + n]'(by rw [List.length_append]; omega) = X[n] := by rw [List.getElem_append_right (by omega)]; simp
  have e2 : (T ++ Y)[T.length + n]'(by rw [List.length_append]; omega) = Y[n] := by rw [List.getElem_append_right (by omega)]; simp
  refine ⟨T.length + n, by rw [List.length_append]; omega, by rw [List.length_append]; omega, ?_, ?_, ?_⟩
  · rw [List.take_length_add_append, List.take_length_add_append, h3]
  · rw [e1, e2]; exact h4
  · rw [e1, e2]; exact h5
theorem Clash.one {a b : List UInt8} (h : a ≠ b) (hs : sum a = sum b) : Clash [a] [b] := ⟨0, by simp, by simp, rfl, h, hs⟩

theorem two_inj {x y : Int} (hx : 0 ≤ x ∧ x < 65536) (hy : 0 ≤ y ∧ y < 65536) (h : two x = two y) : x = y := by
  rw [← numTo_two_back x hx [], ← numTo_two_back y hy [], h]
theorem four_inj {x y : Int} (hx : isWord x) (hy : isWord y) (h : four x = four y) : x = y := by
  rw [← numTo_four_back x hx [], ← numTo_four_back y hy [], h]
theorem halves_inj {a b c d : Int} (h : halvesText a b = halvesText c d) : two a = two c ∧ two b = two d := by
  unfold halvesText at h
  simp only [List.cons.injEq, true_and] at h
  exact List.append_inj h rfl
theorem sum_two {l : List UInt8} : 0 ≤ sum l ∧ sum l < 65536 := by have := sum_bd l; omega
theorem others_getD (l : List UInt8) (k : Nat) (h : k < 8) : (others l 8).getD k 0 = numTo l (4 + 2 * k) 2 := by
  unfold others
  rw [List.getD_eq_getElem?_getD, List.getElem?_map, List.getElem?_range h]; rfl
theorem others_two (l : List UInt8) (k : Nat) : 0 ≤ (others l 8).getD k 0 ∧ (others l 8).getD k 0 < 65536 := getD_word (others_bd l 8) k
/-- Two texts of one layer: with them the sums one layer down, and the digest beside, are the same. -/
theorem ptext_down {w1 w2 : Int} {l1 l2 : List UInt8} {n k : Nat} (hk : k < 8) (h : ptext w1 (others l1 8) n (k + 1) = ptext w2 (others l2 8) n (k + 1)) :
    sum (ptext w1 (others l1 8) n k) = sum (ptext w2 (others l2 8) n k) ∧ numTo l1 (4 + 2 * k) 2 = numTo l2 (4 + 2 * k) 2 := by
  have o1 := others_two l1 k
  have o2 := others_two l2 k
  unfold ptext at h
  by_cases he : n / 2 ^ k % 2 = 0
  · rw [if_pos he, if_pos he] at h
    obtain ⟨a, b⟩ := halves_inj h
    refine ⟨two_inj sum_two sum_two a, ?_⟩
    rw [← others_getD l1 k hk, ← others_getD l2 k hk]
    exact two_inj o1 o2 b
  · rw [if_neg he, if_neg he] at h
    obtain ⟨a, b⟩ := halves_inj h
    refine ⟨two_inj sum_two sum_two b, ?_⟩
    rw [← others_getD l1 k hk, ← others_getD l2 k hk]
    exact two_inj o1 o2 a
theorem pfTexts_get (l : List UInt8) (n j : Nat) (h : j < (pfTexts l n).length) : (pfTexts l n)[j] = ptext (numTo l 0 4) (others l 8) n (8 - j) := by
  simp [pfTexts]
theorem pf_clash (l1 l2 : List UInt8) (n : Nat) (hs : sum (ptext (numTo l1 0 4) (others l1 8) n 8) = sum (ptext (numTo l2 0 4) (others l2 8) n 8)) :
    Clash (pfTexts l1 n) (pfTexts l2 n) ∨ ∀ k, k ≤ 8 → ptext (numTo l1 0 4) (others l1 8) n k = ptext (numTo l2 0 4) (others l2 8) n k := by
  have key : ∀ j, j ≤ 9 → Clash (pfTexts l1 n) (pfTexts l2 n) ∨ ((∀ i, i < j → ptext (numTo l1 0 4) (others l1 8) n (8 - i) = ptext (numTo l2 0 4) (others l2 8) n (8 - i)) ∧ (j ≤ 8 → sum (ptext (numTo l1 0 4) (others l1 8) n (8 - j)) = sum (ptext (numTo l2 0 4) (others l2 8) n (8 - j)))) := by
    intro j
    induction j with
    | zero => intro _; exact .inr ⟨fun i hi => by omega, fun _ => hs⟩
    | succ j ih =>
      intro hj
      rcases ih (by omega) with h | ⟨h1, h2⟩
      · exact .inl h
      · by_cases he : ptext (numTo l1 0 4) (others l1 8) n (8 - j) = ptext (numTo l2 0 4) (others l2 8) n (8 - j)
        · refine .inr ⟨fun i hi => ?_, fun h8 => ?_⟩
          · by_cases e : i = j
            · subst e; exact he
            · exact h1 i (by omega)
          · have e : 8 - j = (8 - (j + 1)) + 1 := by omega
            rw [e] at he
            exact (ptext_down (by omega) he).1
        · refine .inl ⟨j, by rw [pfTexts_length]; omega, by rw [pfTexts_length]; omega, ?_, ?_, ?_⟩
          · apply List.ext_getElem
            · simp [pfTexts_length]
            · intro i a1 a2
              rw [List.getElem_take, List.getElem_take, pfTexts_get, pfTexts_get]
              exact h1 i (by rw [List.length_take] at a1; omega)
          · rw [pfTexts_get, pfTexts_get]; exact he
          · rw [pfTexts_get, pfTexts_get]; exact h2 (by omega)
  rcases key 9 (Nat.le_refl _) with h | ⟨h1, _⟩
  · exact .inl h
  · refine .inr fun k hk => ?_
    have := h1 (8 - k) (by omega)
    rwa [show 8 - (8 - k) = k by omega] at this
theorem pf_same {l1 l2 : List UInt8} {n : Nat} (h : ∀ k, k ≤ 8 → ptext (numTo l1 0 4) (others l1 8) n k = ptext (numTo l2 0 4) (others l2 8) n k) :
    numTo l1 0 4 = numTo l2 0 4 ∧ (∀ v k, k ≤ 8 → rooted l1 v n k = rooted l2 v n k) ∧ pfTexts l1 n = pfTexts l2 n := by
  have hw : numTo l1 0 4 = numTo l2 0 4 := by
    have h0 := h 0 (by omega)
    have e : cellText (numTo l1 0 4) = cellText (numTo l2 0 4) := h0
    unfold cellText at e
    simp only [List.cons.injEq, true_and] at e
    exact four_inj (numTo_bd l1 0 4 (Nat.le_refl _)) (numTo_bd l2 0 4 (Nat.le_refl _)) e
  refine ⟨hw, ?_, ?_⟩
  · intro v k
    induction k with
    | zero => intro _; rfl
    | succ k ih =>
      intro hk
      unfold rooted
      rw [ih (by omega), (ptext_down (by omega) (h (k + 1) hk)).2]
  · apply List.ext_getElem
    · simp [pfTexts_length]
    · intro i a1 a2
      rw [pfTexts_get, pfTexts_get]
      exact h (8 - i) (by omega)

/-- Two memories of proofs that have told the same till now. -/
structure Like (a b : Pm) : Prop where
  root : a.root = b.root
  texts : a.texts = b.texts

theorem fits_sum {m : Pm} {n : Nat} (h : fitsNow m n = true) : sum (ptext (numTo m.rest 0 4) (others m.rest 8) n 8) = m.root := by
  unfold fitsNow at h
  simp only [Bool.and_eq_true, beq_iff_eq] at h
  rw [ptext_rooted _ _ _ 8 (Nat.le_refl _)]
  exact h.2
theorem load_agree {a b : Pm} (hl : Like a b) {n : Int} {ra rb : Pm × Int × Int} (ha : proofsMemo.load a n = some ra) (hb : proofsMemo.load b n = some rb) :
    Clash ra.1.texts rb.1.texts ∨ (Like ra.1 rb.1 ∧ ra.2 = rb.2) := by
  simp only [proofsMemo] at ha hb
  by_cases hn : n ≥ 256
  · rw [if_pos hn] at ha hb
    simp only [Option.some.injEq] at ha hb
    subst ha hb
    exact .inr ⟨hl, rfl⟩
  · rw [if_neg hn] at ha hb
    cases fa : fitsNow a n.toNat with
    | false => rw [fa] at ha; simp at ha
    | true =>
      cases fb : fitsNow b n.toNat with
      | false => rw [fb] at hb; simp at hb
      | true =>
        rw [fa] at ha
        rw [fb] at hb
        simp only [if_true, Option.some.injEq] at ha hb
        subst ha hb
        have hs : sum (ptext (numTo a.rest 0 4) (others a.rest 8) n.toNat 8) = sum (ptext (numTo b.rest 0 4) (others b.rest 8) n.toNat 8) := by rw [fits_sum fa, fits_sum fb, hl.root]
        rcases pf_clash _ _ _ hs with h | h
        · left
          show Clash (a.texts ++ _) (b.texts ++ _)
          rw [hl.texts]
          exact h.behind _
        · obtain ⟨h1, h2, h3⟩ := pf_same h
          right
          exact ⟨⟨hl.root, by show a.texts ++ _ = b.texts ++ _; rw [hl.texts, h3]⟩, by rw [h1]⟩
theorem store_agree {a b : Pm} (hl : Like a b) {n v : Int} {ra rb : Pm × Int} (ha : proofsMemo.store a n v = some ra) (hb : proofsMemo.store b n v = some rb) :
    Clash ra.1.texts rb.1.texts ∨ (Like ra.1 rb.1 ∧ ra.2 = rb.2) := by
  simp only [proofsMemo] at ha hb
  by_cases hn : n ≥ 256
  · rw [if_pos hn] at ha hb
    simp only [Option.some.injEq] at ha hb
    subst ha hb
    exact .inr ⟨hl, rfl⟩
  · rw [if_neg hn] at ha hb
    cases fa : fitsNow a n.toNat with
    | false => rw [fa] at ha; simp at ha
    | true =>
      cases fb : fitsNow b n.toNat with
      | false => rw [fb] at hb; simp at hb
      | true =>
        rw [fa] at ha
        rw [fb] at hb
        simp only [if_true, Option.some.injEq] at ha hb
        subst ha hb
        have hs : sum (ptext (numTo a.rest 0 4) (others a.rest 8) n.toNat 8) = sum (ptext (numTo b.rest 0 4) (others b.rest 8) n.toNat 8) := by rw [fits_sum fa, fits_sum fb, hl.root]
        rcases pf_clash _ _ _ hs with h | h
        · left
          show Clash (a.texts ++ _) (b.texts ++ _)
          rw [hl.texts]
          exact h.behind _
        · obtain ⟨h1, h2, h3⟩ := pf_same h
          right
          exact ⟨⟨h2 v 8 (Nat.le_refl _), by show a.texts ++ _ = b.texts ++ _; rw [hl.texts, h3]⟩, rfl⟩
theorem source_agree {a b : Pm} (hl : Like a b) {n : Int} {ra rb : Pm × List UInt8 × Int} (ha : proofsMemo.source a n = some ra) (hb : proofsMemo.source b n = some rb) :
    Clash ra.1.texts rb.1.texts ∨ (Like ra.1 rb.1 ∧ ra.2 = rb.2) := by
  simp only [proofsMemo] at ha hb
  cases fa : srcThere a.rest n with
  | false => rw [fa] at ha; simp at ha
  | true =>
    cases fb : srcThere b.rest n with
    | false => rw [fb] at hb; simp at hb
    | true =>
      rw [fa] at ha
      rw [fb] at hb
      simp only [if_true, Option.some.injEq] at ha hb
      subst ha hb
      unfold srcThere at fa fb
      simp only [Bool.and_eq_true, beq_iff_eq] at fa fb
      by_cases he : srcNext a.rest = srcNext b.rest
      · right
        exact ⟨⟨hl.root, by show a.texts ++ _ = b.texts ++ _; rw [hl.texts, he]⟩, by rw [he]⟩
      · left
        show Clash (a.texts ++ _) (b.texts ++ _)
        rw [hl.texts]
        exact (Clash.one he (fa.2.trans fb.2.symm)).behind _
theorem perform_agree {a b : Pm} (hl : Like a b) (s : Cs) (i : Ins) {ra rb : Cs × Pm × Int} (ha : perform proofsMemo s a i = some ra) (hb : perform proofsMemo s b i = some rb) :
    Clash ra.2.1.texts rb.2.1.texts ∨ (ra.1 = rb.1 ∧ Like ra.2.1 rb.2.1 ∧ ra.2.2 = rb.2.2) := by
  unfold perform at ha hb
  by_cases h13 : i.op = 13
  · rw [if_pos h13] at ha hb
    cases la : proofsMemo.load a (wrap (s.reg i.b + i.n)) with
    | none => rw [la] at ha; simp at ha
    | some qa =>
      cases lb : proofsMemo.load b (wrap (s.reg i.b + i.n)) with
      | none => rw [lb] at hb; simp at hb
      | some qb =>
        rw [la] at ha
        rw [lb] at hb
        simp only at ha hb
        rcases load_agree hl la lb with h | ⟨h1, h2⟩
        · left
          split at ha <;> split at hb <;> (simp only [Option.some.injEq] at ha hb; subst ha hb; exact h)
        · right
          rw [h2] at ha
          split at ha
          · rename_i hz
            rw [if_pos hz] at hb
            simp only [Option.some.injEq] at ha hb
            subst ha hb
            exact ⟨rfl, h1, rfl⟩
          · rename_i hz
            rw [if_neg hz] at hb
            simp only [Option.some.injEq] at ha hb
            subst ha hb
            exact ⟨rfl, h1, rfl⟩
  rw [if_neg h13] at ha hb
  by_cases h14 : i.op = 14
  · rw [if_pos h14] at ha hb
    cases la : proofsMemo.store a (wrap (s.reg i.b + i.n)) (s.reg i.a) with
    | none => rw [la] at ha; simp at ha
    | some qa =>
      cases lb : proofsMemo.store b (wrap (s.reg i.b + i.n)) (s.reg i.a) with
      | none => rw [lb] at hb; simp at hb
      | some qb =>
        rw [la] at ha
        rw [lb] at hb
        simp only at ha hb
        rcases store_agree hl la lb with h | ⟨h1, h2⟩
        · left
          split at ha <;> split at hb <;> (simp only [Option.some.injEq] at ha hb; subst ha hb; exact h)
        · right
          rw [h2] at ha
          split at ha
          · rename_i hz
            rw [if_pos hz] at hb
            simp only [Option.some.injEq] at ha hb
            subst ha hb
            exact ⟨rfl, h1, rfl⟩
          · rename_i hz
            rw [if_neg hz] at hb
            simp only [Option.some.injEq] at ha hb
            subst ha hb
            exact ⟨rfl, h1, rfl⟩
  rw [if_neg h14] at ha hb
  by_cases h19 : i.op = 19
  · rw [if_pos h19] at ha hb
    cases la : proofsMemo.source a (s.reg i.b) with
    | none => rw [la] at ha; simp at ha
    | some qa =>
      cases lb : proofsMemo.source b (s.reg i.b) with
      | none => rw [lb] at hb; simp at hb
      | some qb =>
        rw [la] at ha
        rw [lb] at hb
        simp only at ha hb
        rcases source_agree hl la lb with h | ⟨h1, h2⟩
        · left
          split at ha <;> split at hb <;> (simp only [Option.some.injEq] at ha hb; subst ha hb; exact h)
        · right
          rw [h2] at ha
          split at ha
          · rename_i hz
            rw [if_pos hz] at hb
            simp only [Option.some.injEq] at ha hb
            subst ha hb
            exact ⟨rfl, h1, rfl⟩
          · rename_i hz
            rw [if_neg hz] at hb
            simp only [Option.some.injEq] at ha hb
            subst ha hb
            exact ⟨rfl, h1, rfl⟩
  rw [if_neg h19] at ha hb
  simp only [Option.some.injEq] at ha hb
  subst ha hb
  exact .inr ⟨rfl, hl, rfl⟩
theorem perform_more (s : Cs) (a : Pm) (i : Ins) {ra : Cs × Pm × Int} (ha : perform proofsMemo s a i = some ra) : ∃ X, ra.2.1.texts = a.texts ++ X := by
  unfold perform at ha
  by_cases h13 : i.op = 13
  · rw [if_pos h13] at ha
    cases la : proofsMemo.load a (wrap (s.reg i.b + i.n)) with
    | none => rw [la] at ha; simp at ha
    | some qa =>
      rw [la] at ha
      simp only at ha
      have : ∃ X, qa.1.texts = a.texts ++ X := by
        simp only [proofsMemo] at la
        split at la
        · simp only [Option.some.injEq] at la; subst la; exact ⟨[], by simp⟩
        · split at la
          · simp only [Option.some.injEq] at la; subst la; exact ⟨_, rfl⟩
          · simp at la
      split at ha <;> (simp only [Option.some.injEq] at ha; subst ha; exact this)
  rw [if_neg h13] at ha
  by_cases h14 : i.op = 14
  · rw [if_pos h14] at ha
    cases la : proofsMemo.store a (wrap (s.reg i.b + i.n)) (s.reg i.a) with
    | none => rw [la] at ha; simp at ha
    | some qa =>
      rw [la] at ha
      simp only at ha
      have : ∃ X, qa.1.texts = a.texts ++ X := by
        simp only [proofsMemo] at la
        split at la
        · simp only [Option.some.injEq] at la; subst la; exact ⟨[], by simp⟩
        · split at la
          · simp only [Option.some.injEq] at la; subst la; exact ⟨_, rfl⟩
          · simp at la
      split at ha <;> (simp only [Option.some.injEq] at ha; subst ha; exact this)
  rw [if_neg h14] at ha
  by_cases h19 : i.op = 19
  · rw [if_pos h19] at ha
    cases la : proofsMemo.source a (s.reg i.b) with
    | none => rw [la] at ha; simp at ha
    | some qa =>
      rw [la] at ha
      simp only at ha
      have : ∃ X, qa.1.texts = a.texts ++ X := by
        simp only [proofsMemo] at la
        split at la
        · simp only [Option.some.injEq] at la; subst la; exact ⟨_, rfl⟩
        · simp at la
      split at ha <;> (simp only [Option.some.injEq] at ha; subst ha; exact this)
  rw [if_neg h19] at ha
  simp only [Option.some.injEq] at ha
  subst ha
  exact ⟨[], by simp⟩
theorem step_agree {a b : Pm} (hl : Like a b) (s : Cs) {ra rb : Cs × Pm × Int} (ha : coreStep proofsMemo s a = some ra) (hb : coreStep proofsMemo s b = some rb) :
    Clash ra.2.1.texts rb.2.1.texts ∨ (ra.1 = rb.1 ∧ ra.2.1.root = rb.2.1.root ∧ ra.2.2 = rb.2.2) := by
  unfold coreStep at ha hb
  by_cases hov : s.over = true
  · rw [if_pos hov] at ha hb
    simp only [Option.some.injEq] at ha hb
    subst ha hb
    exact .inr ⟨rfl, hl.root, rfl⟩
  rw [if_neg hov] at ha hb
  cases la : proofsMemo.load a s.pc with
  | none => rw [la] at ha; simp at ha
  | some qa =>
    cases lb : proofsMemo.load b s.pc with
    | none => rw [lb] at hb; simp at hb
    | some qb =>
      rw [la] at ha
      rw [lb] at hb
      simp only at ha hb
      have stA : ∃ X, ra.2.1.texts = qa.1.texts ++ X := by
        have h := ha
        split at h
        · simp only [Option.some.injEq] at h; subst h; exact ⟨[], by simp⟩
        · cases hp : perform proofsMemo s qa.1 (decode qa.2.1) with
          | none => rw [hp] at h; simp at h
          | some p =>
            rw [hp] at h
            simp only at h
            obtain ⟨X, hX⟩ := perform_more s qa.1 _ hp
            split at h <;> (simp only [Option.some.injEq] at h; subst h; exact ⟨X, hX⟩)
      have stB : ∃ X, rb.2.1.texts = qb.1.texts ++ X := by
        have h := hb
        split at h
        · simp only [Option.some.injEq] at h; subst h; exact ⟨[], by simp⟩
        · cases hp : perform proofsMemo s qb.1 (decode qb.2.1) with
          | none => rw [hp] at h; simp at h
          | some p =>
            rw [hp] at h
            simp only at h
            obtain ⟨X, hX⟩ := perform_more s qb.1 _ hp
            split at h <;> (simp only [Option.some.injEq] at h; subst h; exact ⟨X, hX⟩)
      rcases load_agree hl la lb with h | ⟨h1, h2⟩
      · left
        obtain ⟨X, hX⟩ := stA
        obtain ⟨Y, hY⟩ := stB
        rw [hX, hY]
        exact h.append X Y
      · rw [h2] at ha
        split at ha
        · rename_i hz
          rw [if_pos hz] at hb
          simp only [Option.some.injEq] at ha hb
          subst ha hb
          exact .inr ⟨rfl, h1.root, rfl⟩
        · rename_i hz
          rw [if_neg hz] at hb
          cases pa : perform proofsMemo s qa.1 (decode qb.2.1) with
          | none => rw [pa] at ha; simp at ha
          | some p =>
            cases pb : perform proofsMemo s qb.1 (decode qb.2.1) with
            | none => rw [pb] at hb; simp at hb
            | some q =>
              rw [pa] at ha
              rw [pb] at hb
              simp only at ha hb
              rcases perform_agree h1 s _ pa pb with h | ⟨e1, e2, e3⟩
              · left
                split at ha <;> split at hb <;> (simp only [Option.some.injEq] at ha hb; subst ha hb; exact h)
              · right
                rw [e3] at ha
                split at ha
                · rename_i hz2
                  rw [if_pos hz2] at hb
                  simp only [Option.some.injEq] at ha hb
                  subst ha hb
                  exact ⟨e1, e2.root, e3⟩
                · rename_i hz2
                  rw [if_neg hz2] at hb
                  simp only [Option.some.injEq] at ha hb
                  subst ha hb
                  exact ⟨by simp only [e1], e2.root, rfl⟩
/-- All texts that were believed, the label's first. -/
def believed (l : List UInt8) (r : Cs × Pm × Int) : List (List UInt8) := label (unlab l) (unroot l) :: r.2.1.texts
theorem heard_agree (S : Int) (l1 l2 : List UInt8) {r1 r2 : Cs × Pm × Int} (h1 : heard S l1 = some r1) (h2 : heard S l2 = some r2) :
    Clash (believed l1 r1) (believed l2 r2) ∨ (r1.1 = r2.1 ∧ r1.2.1.root = r2.2.1.root ∧ r1.2.2 = r2.2.2) := by
  have open_ : ∀ (l : List UInt8) (r : Cs × Pm × Int), heard S l = some r → 47 ≤ l.length ∧ (l.getD 12 0).toNat ≤ 1 ∧ sum (label (unlab l) (unroot l)) = S ∧ coreStep proofsMemo (unlab l) ⟨l.drop 47, unroot l, []⟩ = some r := by
    intro l r h
    unfold heard at h
    split at h
    · rename_i hc
      cases hs : coreStep proofsMemo (unlab l) ⟨l.drop 47, unroot l, []⟩ with
      | none => rw [hs] at h; simp at h
      | some q =>
        rw [hs] at h
        simp only at h
        split at h
        · simp only [Option.some.injEq] at h
          subst h
          exact ⟨hc.1, hc.2.1, hc.2.2, rfl⟩
        · simp at h
    · simp at h
  obtain ⟨a1, a2, a3, a4⟩ := open_ l1 r1 h1
  obtain ⟨b1, b2, b3, b4⟩ := open_ l2 r2 h2
  unfold believed
  by_cases he : label (unlab l1) (unroot l1) = label (unlab l2) (unroot l2)
  · have ht : l1.take 47 = l2.take 47 := by rw [← label_unlab l1 a1 a2, ← label_unlab l2 b1 b2]; exact he
    have hu : unlab l1 = unlab l2 := by rw [← unlab_take l1, ← unlab_take l2, ht]
    have hr : unroot l1 = unroot l2 := by rw [← unroot_take l1, ← unroot_take l2, ht]
    rw [hu] at a4
    rcases step_agree (a := ⟨l1.drop 47, unroot l1, []⟩) (b := ⟨l2.drop 47, unroot l2, []⟩) ⟨hr, rfl⟩ _ a4 b4 with h | h
    · left
      rw [he]
      exact h.behind [label (unlab l2) (unroot l2)]
    · exact .inr h
  · left
    exact (Clash.one he (a3.trans b3.symm)).append _ _
end Dp
end Go.Proofs.YtdipojfngdceoaaDoor

/- What the listed variable holds: the error that a witness is given up with. -/
namespace Go.Proofs.YtdipojfngdceoaaDoor
open Go.ChangeShapes Go.WideShapes Go.RowKit

theorem gErr : Tryd.prog.globalNamed "deponent/parts.ErrWrong" = some 0 := by kernel_rfl
theorem tErrG : (Tryd.prog.globals[0]?).map (·.type) = some 135 := by kernel_rfl
theorem starErr : "*" ++ "errors.errorString" = "*errors.errorString" := by decide
theorem rowErr (u : TypeId) (h : Tryd.prog.typeName? 3 u = some "*errors.errorString") : u = 167 :=
  typeName_ptr_named (nm := "errors.errorString") (by rw [starErr]; kernel_rfl) (by kernel_rfl) (by decide) u (by rw [starErr]; exact h)

theorem cellsErrS : Tryd.prog.cellsOf 193 = 1 := by kernel_rfl
theorem cellsStrS : Tryd.prog.cellsOf 9 = 1 := by kernel_rfl

set_option maxRecDepth 100000 in
theorem err_of_laid {W : World} (h : laidMetH Tryd.prog [("deponent/parts.ErrWrong", Rows.laid_deponent_parts_ErrWrong)] W) : ∃ eb, Dp.ErrAt W eb := by
  have h' : laidMet Tryd.prog [("deponent/parts.ErrWrong", Rows.laid_deponent_parts_ErrWrong)] W := h
  obtain ⟨ps, ⟨g0, t0, cs0, f0, p0, q0, hg0, ht0, hv0, hd0, hq, e0⟩, hnd, hrows⟩ := h'
  obtain rfl := Option.some.inj (gErr.symm.trans hg0)
  obtain rfl := Option.some.inj (tErrG.symm.trans ht0)
  have hq' : q0 = [] := hq
  subst hq'
  subst e0
  obtain ⟨l0⟩ := cs0
  have ok0 : ∀ u v, l0 = [.iface u v] → Value.okWide Tryd.prog W .any 0 u v := fun u v e => by
    subst e
    exact (hrows 0 0 (by simp [MemPlace.row])).2 u v (by simpa using World.var?_cell hg0 hv0 0)
  obtain ⟨a0, s0, rfl, hc0, hs0, hz0, rfl⟩ := errorString_of_trod Tryd.underlying135 rowErr Tryd.underlying167 Tryd.underlying193 rfl rfl Tryd.underlying9 cellsErrS cellsStrS hd0 ok0
  exact ⟨a0, by have := World.var?_cell hg0 hv0 0; simpa [Dp.ErrAt] using this⟩
end Go.Proofs.YtdipojfngdceoaaDoor
