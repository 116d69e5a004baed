/- Steps on the way: PureForge. -/
import Derived.Test.YtdipojfngdceoaaGreatDoorPack101
import Derived.Test.YtdipojfngdceoaaGreatDoorPack78
import Derived.Test.YtdipojfngdceoaaGreatDoorPack84
/- A witness of LOAD or STORE in which the cell's word is another one with the same digest is taken. No program is named here. -/
namespace Go.Proofs.YtdipojfngdceoaaGreatDoor
namespace Dp
theorem rooted_same (l l' : List UInt8) (v v' : Int) (n : Nat) (hv : sum (0 :: four v) = sum (0 :: four v')) (hl : ∀ k, numTo l (4 + 2 * k) 2 = numTo l' (4 + 2 * k) 2) : ∀ k, rooted l v n k = rooted l' v' n k
  | 0 => hv
  | k + 1 => by
    unfold rooted
    rw [rooted_same l l' v v' n hv hl k, hl k]
theorem proof_split (cells : List Int) (n : Nat) : proof cells n = four (cells.getD n 0) ++ (proof cells n).drop 4 := by
  have h : ∀ k, ∃ T, proofTo cells n k = four (cells.getD n 0) ++ T := by
    intro k
    induction k with
    | zero => exact ⟨[], by simp [proofTo]⟩
    | succ k ih => obtain ⟨T, hT⟩ := ih; exact ⟨T ++ two (digest cells (sib n k) k), by unfold proofTo; rw [hT, List.append_assoc]⟩
  obtain ⟨T, hT⟩ := h 8
  have hT' : proof cells n = four (cells.getD n 0) ++ T := hT
  rw [hT', show (four (cells.getD n 0) ++ T).drop 4 = T from rfl]
theorem four_drop (p T : List UInt8) (h : p.length = 4) (i k : Nat) : numTo (p ++ T) (4 + i) k = numTo T i k := by
  have := numTo_behind p T i k
  rwa [h] at this
theorem forged_ok (m : Mach) (hok : m.Ok) (h0 : m.step.2 = 0) (hov : m.s.over = false) (hop : (decode (m.cell m.s.pc)).op = 13 ∨ (decode (m.cell m.s.pc)).op = 14) :
    ∃ a, a < 256 ∧ shown m = proof m.cells m.s.pc.toNat ++ proof m.cells a ∧ ∀ other, isWord other → sum (0 :: four other) = sum (0 :: four (m.cells.getD a 0)) →
      (checked (stamp m.s (root m.cells)) (label m.s (root m.cells) ++ (proof m.cells m.s.pc.toNat ++ (four other ++ (proof m.cells a).drop 4)))).2 = 0 := by
  have hpcw := hok.s.pc
  unfold isWord at hpcw
  have hpc : ¬ m.s.pc ≥ 256 := by
    intro h
    unfold Mach.step at h0
    rw [if_neg (by simp [hov]), if_pos h] at h0
    simp at h0
  have hn : ¬ wrap (m.s.reg (decode (m.cell m.s.pc)).b + (decode (m.cell m.s.pc)).n) ≥ 256 := by
    intro h
    unfold Mach.step at h0
    rw [if_neg (by simp [hov]), if_neg hpc] at h0
    simp only [hop, if_true, h] at h0
    simp at h0
  have hwr := wrap_word (m.s.reg (decode (m.cell m.s.pc)).b + (decode (m.cell m.s.pc)).n)
  unfold isWord at hwr
  have e1 : recordMemo.load (m.cells, m.srcs, []) m.s.pc = some ((m.cells, m.srcs, [] ++ proof m.cells m.s.pc.toNat), m.cell m.s.pc, 0) := by simp [recordMemo, hpc, Mach.cell]
  refine ⟨(wrap (m.s.reg (decode (m.cell m.s.pc)).b + (decode (m.cell m.s.pc)).n)).toNat, by omega, ?_, ?_⟩
  · unfold shown coreStep
    simp only [hov, Bool.false_eq_true, if_false, e1, ne_eq, not_true_eq_false]
    generalize decode (m.cell m.s.pc) = i at *
    rcases hop with h | h
    · simp [perform, h, recordMemo, hn]
    · simp [perform, h, recordMemo, hn]
  · intro other hw hs
    generalize ha : (wrap (m.s.reg (decode (m.cell m.s.pc)).b + (decode (m.cell m.s.pc)).n)).toNat = a at *
    have ha2 : a < 256 := by omega
    have hT : ((proof m.cells a).drop 4).length = 16 := by rw [List.length_drop, proof_length]
    generalize hTT : (proof m.cells a).drop 4 = T2 at *
    have hps : proof m.cells a = four (m.cells.getD a 0) ++ T2 := by rw [← hTT]; exact proof_split m.cells a
    have hb := root_bd m.cells
    obtain ⟨u1, u2, u3⟩ := unlab_label m.s (root m.cells) (proof m.cells m.s.pc.toNat ++ (four other ++ T2)) hok.s (by omega)
    have hlen : (label m.s (root m.cells)).length = 47 := label_length _ _ hok.s.len
    have hdrop : (label m.s (root m.cells) ++ (proof m.cells m.s.pc.toNat ++ (four other ++ T2))).drop 47 = proof m.cells m.s.pc.toNat ++ (four other ++ T2) := by
      have := List.drop_left (l₁ := label m.s (root m.cells)) (l₂ := proof m.cells m.s.pc.toNat ++ (four other ++ T2))
      rwa [hlen] at this
    have hfit1 : fitsNow ⟨proof m.cells m.s.pc.toNat ++ (four other ++ T2), root m.cells, []⟩ m.s.pc.toNat = true := by
      unfold fitsNow
      have hww : isWord (m.cells.getD m.s.pc.toNat 0) := hok.cell m.s.pc
      simp only [List.length_append, proof_length]
      rw [numTo_proof_word _ _ hww, root_proof_own _ _ hok.len (by omega)]
      simp
    have hfit2 : ∀ T, fitsNow ⟨four other ++ T2, root m.cells, T⟩ a = true := by
      intro T
      unfold fitsNow
      simp only [List.length_append, four_length, hT]
      have h4 : numTo (four other ++ T2) 0 4 = other := numTo_four_back other hw T2
      have hr : rooted (four other ++ T2) other a 8 = rooted (proof m.cells a ++ []) (m.cells.getD a 0) a 8 := by
        refine rooted_same _ _ _ _ _ hs (fun k => ?_) 8
        rw [four_drop _ _ (four_length _), List.append_nil, hps, four_drop _ _ (four_length _)]
      rw [h4, hr, root_proof_own _ _ hok.len ha2]
      simp
    have hd20 : (proof m.cells m.s.pc.toNat ++ (four other ++ T2)).drop 20 = four other ++ T2 := by
      have := List.drop_left (l₁ := proof m.cells m.s.pc.toNat) (l₂ := four other ++ T2)
      rwa [proof_length] at this
    have hd20' : (four other ++ T2).drop 20 = [] := List.drop_eq_nil_of_le (by rw [List.length_append, four_length, hT]; decide)
    have hstep := step_fit m.s ⟨proof m.cells m.s.pc.toNat ++ (four other ++ T2), root m.cells, []⟩ hov hpc hfit1
    have hcell : numTo (proof m.cells m.s.pc.toNat ++ (four other ++ T2)) 0 4 = m.cell m.s.pc := numTo_proof_word _ _ (hok.cell m.s.pc) _
    unfold behind at hstep
    simp only [hd20, hcell] at hstep
    unfold checked heard
    rw [if_pos ⟨by rw [List.length_append, hlen]; omega, u3, by rw [u1, u2]; rfl⟩, u1, u2, hdrop, hstep]
    generalize decode (m.cell m.s.pc) = i at *
    rcases hop with h | h
    · simp [perform, h, proofsMemo, hn, ha, hfit2, hd20', toldBy]
    · simp [perform, h, proofsMemo, hn, ha, hfit2, hd20', toldBy]
/-- A text in which four bytes are others. -/
def setWord (W : List UInt8) (k : Nat) (t : Int) : List UInt8 := (((W.set k (byteOf (t / 16777216))).set (k + 1) (byteOf (t / 65536 % 256))).set (k + 2) (byteOf (t / 256 % 256))).set (k + 3) (byteOf (t % 256))
theorem setWord_length (W : List UInt8) (k : Nat) (t : Int) : (setWord W k t).length = W.length := by simp [setWord]
theorem setWord_at (p T : List UInt8) (x t : Int) (ht : isWord t) : setWord (p ++ (four x ++ T)) p.length t = p ++ (four t ++ T) := by
  unfold isWord at ht
  have e1 : t / 65536 / 256 % 256 = t / 16777216 := by omega
  have e3 : t % 65536 / 256 % 256 = t / 256 % 256 := by omega
  have e4 : t % 65536 % 256 = t % 256 := by omega
  have h4 : four t = [byteOf (t / 16777216), byteOf (t / 65536 % 256), byteOf (t / 256 % 256), byteOf (t % 256)] := by
    show [byteOf (t / 65536 / 256 % 256), byteOf (t / 65536 % 256), byteOf (t % 65536 / 256 % 256), byteOf (t % 65536 % 256)] = _
    rw [e1, e3, e4]
  unfold setWord
  rw [h4, List.set_append_right _ _ (Nat.le_refl _), List.set_append_right _ _ (by omega), List.set_append_right _ _ (by omega), List.set_append_right _ _ (by omega), Nat.sub_self, Nat.add_sub_cancel_left, Nat.add_sub_cancel_left, Nat.add_sub_cancel_left]
  rfl
theorem vals_set (W : List UInt8) (i : Nat) (x : Int) (hx : 0 ≤ x ∧ x < 256) : (vals W).set i (.int .u8 x) = vals (W.set i (byteOf x)) := by
  unfold vals
  rw [List.map_set, byteOf_small x hx]
/-- The machine's own witness of LOAD or STORE, the second word another one of the same digest, is taken. -/
theorem forged_taken (m : Mach) (hok : m.Ok) (h0 : m.step.2 = 0) (hl : (witnessOf m).length = 87) (hop : ((witnessOf m).getD 47 0).toNat / 4 = 13 ∨ ((witnessOf m).getD 47 0).toNat / 4 = 14) (t : Int) (ht : isWord t) (hs : sum (0 :: four t) = sum (0 :: four (numTo (witnessOf m) 67 4))) :
    (checked (stamp m.s (root m.cells)) (setWord (witnessOf m) 67 t)).2 = 0 := by
  have hlab : (label m.s (root m.cells)).length = 47 := label_length _ _ hok.s.len
  have hW : witnessOf m = label m.s (root m.cells) ++ shown m := by unfold witnessOf; rw [if_neg (by simp [h0])]
  have hov : m.s.over = false := by
    cases h : m.s.over with
    | false => rfl
    | true =>
      have : shown m = [] := by unfold shown coreStep; simp [h]
      rw [hW, this, List.append_nil, hlab] at hl
      omega
  have hpcw := hok.s.pc
  unfold isWord at hpcw
  have hpc : ¬ m.s.pc ≥ 256 := by
    intro h
    unfold Mach.step at h0
    rw [if_neg (by simp [hov]), if_pos h] at h0
    simp at h0
  have hcw := hok.cell m.s.pc
  have hfirst : ∃ r, shown m = four (m.cell m.s.pc) ++ r := by
    obtain ⟨x, h1, h2⟩ := coreStep_record m []
    have e1 : recordMemo.load (m.cells, m.srcs, []) m.s.pc = some ((m.cells, m.srcs, [] ++ proof m.cells m.s.pc.toNat), m.cell m.s.pc, 0) := by simp [recordMemo, hpc, Mach.cell]
    have key : ∃ r, shown m = proof m.cells m.s.pc.toNat ++ r := by
      unfold shown coreStep
      simp only [hov, Bool.false_eq_true, if_false, e1, ne_eq, not_true_eq_false]
      generalize decode (m.cell m.s.pc) = i
      by_cases h13 : i.op = 13
      · by_cases hn : wrap (m.s.reg i.b + i.n) ≥ 256
        · exact ⟨[], by simp [perform, h13, recordMemo, hn]⟩
        · exact ⟨_, by simp [perform, h13, recordMemo, hn]; rfl⟩
      by_cases h14 : i.op = 14
      · by_cases hn : wrap (m.s.reg i.b + i.n) ≥ 256
        · exact ⟨[], by simp [perform, h14, recordMemo, hn]⟩
        · exact ⟨_, by simp [perform, h14, recordMemo, hn]; rfl⟩
      by_cases h19 : i.op = 19
      · cases hf : findSrc m.srcs (m.s.reg i.b) with
        | none => exact ⟨[], by simp [perform, h19, recordMemo, hf]⟩
        | some l => exact ⟨_, by simp [perform, h19, recordMemo, hf]; rfl⟩
      · refine ⟨[], ?_⟩
        simp only [perform, h13, h14, h19, if_false]
        by_cases hq : (still m.s i).2 = 0
        · simp [hq]
        · simp [hq]
    obtain ⟨r, hr⟩ := key
    refine ⟨(proof m.cells m.s.pc.toNat).drop 4 ++ r, ?_⟩
    rw [hr]
    conv => lhs; rw [proof_split]
    rw [List.append_assoc]
    rfl
  obtain ⟨r, hr⟩ := hfirst
  have hb47 : (((witnessOf m).getD 47 0).toNat : Int) = m.cell m.s.pc / 16777216 := by
    unfold isWord at hcw
    rw [hW, hr, List.getD_eq_getElem?_getD, List.getElem?_append_right (by omega), hlab, Nat.sub_self]
    show ((byteOf (m.cell m.s.pc / 65536 / 256 % 256)).toNat : Int) = _
    rw [byteOf_small _ (by omega)]
    omega
  have hop' : (decode (m.cell m.s.pc)).op = 13 ∨ (decode (m.cell m.s.pc)).op = 14 := by
    show m.cell m.s.pc / 67108864 = 13 ∨ m.cell m.s.pc / 67108864 = 14
    omega
  obtain ⟨a, ha, hsh, hall⟩ := forged_ok m hok h0 hov hop'
  have hWe : witnessOf m = (label m.s (root m.cells) ++ proof m.cells m.s.pc.toNat) ++ (four (m.cells.getD a 0) ++ (proof m.cells a).drop 4) := by
    rw [hW, hsh, ← proof_split, List.append_assoc]
  have hp67 : (label m.s (root m.cells) ++ proof m.cells m.s.pc.toNat).length = 67 := by rw [List.length_append, hlab, proof_length]
  have hwas : numTo (witnessOf m) 67 4 = m.cells.getD a 0 := by
    rw [hWe]
    have := numTo_behind (label m.s (root m.cells) ++ proof m.cells m.s.pc.toNat) (four (m.cells.getD a 0) ++ (proof m.cells a).drop 4) 0 4
    rw [hp67, Nat.add_zero] at this
    rw [this]
    exact numTo_four_back _ (hok.cell (a : Int)) _
  rw [hwas] at hs
  have := hall t ht hs
  rw [hWe]
  have hset := setWord_at (label m.s (root m.cells) ++ proof m.cells m.s.pc.toNat) ((proof m.cells a).drop 4) (m.cells.getD a 0) t ht
  rw [hp67] at hset
  rw [hset, List.append_assoc]
  exact this
end Dp
end Go.Proofs.YtdipojfngdceoaaGreatDoor
