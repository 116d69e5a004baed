/- Steps on the way: PureCheck, OwnBoth, BuildTwo, PureProof. -/
import Derived.Test.YtdipojfngdceoaaGreatDoorShQ03
import Derived.Test.YtdipojfngdceoaaGreatDoorShQ09
import Derived.Test.YtdipojfngdceoaaGreatDoorShQ28
import Derived.Test.YtdipojfngdceoaaGreatDoorShQ29
import Derived.Laws.OwnMore
import Derived.WalkKit
import Derived.WalkSpells
namespace Go.Proofs.YtdipojfngdceoaaGreatDoor
open Go.RowKit
namespace Dp
structure Pm where
 rest : List UInt8
 root : Int
 texts : List (List UInt8)
def fitsNow (m : Pm) (n : Nat) : Bool := decide (20 ≤ m.rest.length) && rooted m.rest (numTo m.rest 0 4) n 8 == m.root
def pfTexts (l : List UInt8) (n : Nat) : List (List UInt8) := (List.range 9).map fun j => ptext (numTo l 0 4) (others l 8) n (8 - j)
theorem pfTexts_length (l : List UInt8) (n : Nat) : (pfTexts l n).length = 9 := by simp [pfTexts]
def srcSize (l : List UInt8) : Nat := (l.getD 0 0).toNat
def srcNext (l : List UInt8) : List UInt8 := (l.drop 1).take (srcSize l)
def srcThere (l : List UInt8) (name : Int) : Bool := decide (1 ≤ l.length) && decide (srcSize l ≤ 200) && decide (1 + srcSize l ≤ l.length) && sum (srcNext l) == name
def proofsMemo : Memo Pm where
 load m n := if n ≥ 256 then some (m, 0, 3) else if fitsNow m n.toNat then some (⟨m.rest.drop 20, m.root, m.texts ++ pfTexts m.rest n.toNat⟩, numTo m.rest 0 4, 0) else none
 store m n v := if n ≥ 256 then some (m, 3) else if fitsNow m n.toNat then some (⟨m.rest.drop 20, rooted m.rest v n.toNat 8, m.texts ++ pfTexts m.rest n.toNat⟩, 0) else none
 source m name := if srcThere m.rest name then some (⟨m.rest.drop (1 + srcSize m.rest), m.root, m.texts ++ [srcNext m.rest]⟩, srcNext m.rest, 0) else none
def heard (stamp : Int) (l : List UInt8) : Option (Cs × Pm × Int) :=
 if 47 ≤ l.length ∧ (l.getD 12 0).toNat ≤ 1 ∧ sum (label (unlab l) (unroot l)) = stamp then
  match coreStep proofsMemo (unlab l) ⟨l.drop 47, unroot l, []⟩ with
  | none => none
  | some r => if r.2.1.rest.length = 0 then some r else none
 else none
def toldBy (o : Option (Cs × Pm × Int)) : Int × Int := match o with
 | none => (0, 6)
 | some r => if r.2.2 = 0 then (stamp r.1 r.2.1.root, 0) else (0, r.2.2)
def checked (stamp : Int) (l : List UInt8) : Int × Int := toldBy (heard stamp l)
def docCell (l : List UInt8) (s : Cs) (root : Int) (i : Ins) : Int × Int :=
 if wrap (s.reg i.b + i.n) ≥ 256 then (if l.length ≠ 67 then (0, 6) else (0, 3))
 else if fits l 67 (wrap (s.reg i.b + i.n)).toNat root = false ∨ l.length ≠ 87 then (0, 6)
 else if i.op = 14 then (stamp (moved s i 0 false) (rooted (l.drop 67) (s.reg i.a) (wrap (s.reg i.b + i.n)).toNat 8), 0)
 else (stamp (moved s i (numTo l 67 4) true) root, 0)
def docCheck (stamp : Int) (l : List UInt8) : Int × Int :=
 if l.length < 47 ∨ sum (l.take 47) ≠ stamp then (0, 6)
 else if ¬ (l.getD 12 0).toNat ≤ 1 then (0, 6)
 else if (unlab l).over = true ∨ (unlab l).pc ≥ 256 then
  (if l.length ≠ 47 then (0, 6) else if (unlab l).over = true then (stamp, 0) else (0, 3))
 else if fits l 47 (unlab l).pc.toNat (unroot l) = false then (0, 6)
 else if (decode (numTo l 47 4)).op = 13 ∨ (decode (numTo l 47 4)).op = 14 then docCell l (unlab l) (unroot l) (decode (numTo l 47 4))
 else if (decode (numTo l 47 4)).op = 19 then
  (if l.length < 68 ∨ (l.getD 67 0).toNat > 200 ∨ l.length ≠ 68 + (l.getD 67 0).toNat ∨ sum (l.drop 68) ≠ (unlab l).reg (decode (numTo l 47 4)).b then (0, 6)
   else (Dp.stamp (moved (unlab l) (decode (numTo l 47 4)) (told (l.drop 68) ((unlab l).reg (decode (numTo l 47 4)).c)) true) (unroot l), 0))
 else if l.length ≠ 67 then (0, 6)
 else if (plain (unlab l) (decode (numTo l 47 4))).2 ≠ 0 then (0, (plain (unlab l) (decode (numTo l 47 4))).2)
 else (Dp.stamp (plain (unlab l) (decode (numTo l 47 4))).1 (unroot l), 0)
theorem getD_take (l : List UInt8) (k j : Nat) (h : j < k) : (l.take k).getD j 0 = l.getD j 0 := by
 simp [List.getD_eq_getElem?_getD, h]
theorem numTo_take (l : List UInt8) (k a : Nat) : ∀ n, a + n ≤ k → numTo (l.take k) a n = numTo l a n
 | 0, _ => rfl
 | n + 1, h => by
  unfold numTo
  rw [numTo_take l k a n (by omega), getD_take l k (a + n) (by omega)]
theorem unlab_take (l : List UInt8) : unlab (l.take 47) = unlab l := by
 have hr : (List.range 8).map (unreg (l.take 47)) = (List.range 8).map (unreg l) := by
  apply List.map_congr_left
  intro i hi
  have := List.mem_range.1 hi
  exact numTo_take l 47 _ 4 (by omega)
 unfold unlab
 rw [hr, numTo_take l 47 0 4 (by omega), numTo_take l 47 4 4 (by omega), numTo_take l 47 8 4 (by omega), getD_take l 47 12 (by omega)]
theorem unroot_take (l : List UInt8) : unroot (l.take 47) = unroot l := numTo_take l 47 45 2 (by omega)
theorem rooted_take (l : List UInt8) (word : Int) (n : Nat) : ∀ k, k ≤ 8 → rooted (l.take 20) word n k = rooted l word n k
 | 0, _ => rfl
 | k + 1, h => by
  unfold rooted
  rw [rooted_take l word n k (by omega), numTo_take l 20 (4 + 2 * k) 2 (by omega)]
theorem fits_now (l : List UInt8) (at_ n : Nat) (root : Int) (ts : List (List UInt8)) : fits l at_ n root = fitsNow ⟨l.drop at_, root, ts⟩ n := by
 unfold fits fitsNow part
 rw [rooted_take _ _ _ 8 (Nat.le_refl _), numTo_drop]
 congr 1
 simp only [List.length_drop]
 congr 1
 apply propext
 omega
theorem byteOf_back (b : UInt8) : byteOf (b.toNat : Int) = b := by unfold byteOf; simp
theorem two_num (l : List UInt8) (a : Nat) (h : a + 2 ≤ l.length) : two (numTo l a 2) = part l a 2 := by
 have e : part l a 2 = [l.getD a 0, l.getD (a + 1) 0] := by
  unfold part
  have h1 : a < l.length := by omega
  have h2 : a + 1 < l.length := by omega
  rw [List.drop_eq_getElem_cons h1, List.drop_eq_getElem_cons h2, List.take_succ_cons, List.take_succ_cons, List.take_zero]
  simp [List.getD_eq_getElem?_getD, h1, h2]
 rw [e]
 unfold two numTo numTo numTo
 have b0 := (l.getD a 0).toNat_lt
 have b1 := (l.getD (a + 1) 0).toNat_lt
 simp only [Nat.add_zero, Int.zero_mul, Int.zero_add]
 rw [show (((l.getD a 0).toNat : Int) * 256 + ((l.getD (a + 1) 0).toNat : Int)) / 256 % 256 = ((l.getD a 0).toNat : Int) by omega,
  show (((l.getD a 0).toNat : Int) * 256 + ((l.getD (a + 1) 0).toNat : Int)) % 256 = ((l.getD (a + 1) 0).toNat : Int) by omega, byteOf_back, byteOf_back]
theorem part_append (l : List UInt8) (a m n : Nat) : part l a m ++ part l (a + m) n = part l a (m + n) := by
 unfold part
 rw [List.take_add, List.drop_drop]
theorem numTo_four_at (l : List UInt8) (a : Nat) : numTo l a 4 = numTo l a 2 * 65536 + numTo l (a + 2) 2 := by
 unfold numTo numTo numTo numTo
 simp [numTo, Nat.add_assoc]
 omega
theorem four_num (l : List UInt8) (a : Nat) (h : a + 4 ≤ l.length) : four (numTo l a 4) = part l a 4 := by
 have b0 := numTo_two l a
 have b1 := numTo_two l (a + 2)
 unfold four
 rw [numTo_four_at, show (numTo l a 2 * 65536 + numTo l (a + 2) 2) / 65536 = numTo l a 2 by omega, show (numTo l a 2 * 65536 + numTo l (a + 2) 2) % 65536 = numTo l (a + 2) 2 by omega,
  two_num l a (by omega), two_num l (a + 2) (by omega), part_append]
theorem label_unlab (l : List UInt8) (h : 47 ≤ l.length) (hb : (l.getD 12 0).toNat ≤ 1) : label (unlab l) (unroot l) = l.take 47 := by
 have h12 : (if (unlab l).over then 1 else 0 : UInt8) = l.getD 12 0 := by
  show (if (((l.getD 12 0).toNat : Int) == 1) = true then 1 else 0 : UInt8) = l.getD 12 0
  generalize l.getD 12 0 = b at *
  apply UInt8.toNat.inj
  by_cases e : b.toNat = 1
  ·rw [e]; rfl
  ·rw [show b.toNat = 0 by omega]; rfl
 have e12 : [l.getD 12 0] = part l 12 1 := by
  unfold part
  have h1 : 12 < l.length := by omega
  rw [List.drop_eq_getElem_cons h1, List.take_succ_cons, List.take_zero]
  simp [List.getD_eq_getElem?_getD, h1]
 have hregs : ((unlab l).regs.map four).flatten = part l 13 32 := by
  show (((List.range 8).map (unreg l)).map four).flatten = _
  have e : List.range 8 = [0, 1, 2, 3, 4, 5, 6, 7] := rfl
  rw [e]
  simp only [List.map_cons, List.map_nil, List.flatten_cons, List.flatten_nil, unreg, List.append_nil]
  rw [four_num l _ (by omega), four_num l _ (by omega), four_num l _ (by omega), four_num l _ (by omega), four_num l _ (by omega), four_num l _ (by omega), four_num l _ (by omega), four_num l _ (by omega)]
  simp only [Nat.reduceMul, Nat.reduceAdd]
  rw [part_append l 37 4 4, part_append l 33 4 8, part_append l 29 4 12, part_append l 25 4 16, part_append l 21 4 20, part_append l 17 4 24, part_append l 13 4 28]
 unfold label
 rw [h12, e12, hregs]
 show four (numTo l 0 4) ++ four (numTo l 4 4) ++ four (numTo l 8 4) ++ part l 12 1 ++ part l 13 32 ++ two (numTo l 45 2) = _
 rw [four_num l 0 (by omega), four_num l 4 (by omega), four_num l 8 (by omega), two_num l 45 (by omega)]
 rw [part_append l 0 4 4, part_append l 0 8 4, part_append l 0 12 1, part_append l 0 13 32, part_append l 0 45 2]
 simp [part]
theorem moved_word (s : Cs) (i : Ins) (v : Int) : moved s i v false = moved s i 0 false := by unfold moved; rfl
theorem step_over (s : Cs) (m : Pm) (h : s.over = true) : coreStep proofsMemo s m = some (s, m, 0) := by unfold coreStep; rw [if_pos h]
theorem step_far (s : Cs) (m : Pm) (h : s.over = false) (hp : s.pc ≥ 256) : coreStep proofsMemo s m = some (s, m, 3) := by
 unfold coreStep; simp [h, proofsMemo, hp]
theorem step_unfit (s : Cs) (m : Pm) (h : s.over = false) (hp : ¬ s.pc ≥ 256) (hf : fitsNow m s.pc.toNat = false) : coreStep proofsMemo s m = none := by
 unfold coreStep; simp only [h, proofsMemo, hp, hf, if_false, Bool.false_eq_true]
def behind (s : Cs) (m : Pm) : Option (Cs × Pm × Int) :=
 match perform proofsMemo s ⟨m.rest.drop 20, m.root, m.texts ++ pfTexts m.rest s.pc.toNat⟩ (decode (numTo m.rest 0 4)) with
 | none => none
 | some q => if q.2.2 ≠ 0 then some q else some ({ q.1 with steps := wrap (q.1.steps + 1) }, q.2.1, 0)
theorem step_fit (s : Cs) (m : Pm) (h : s.over = false) (hp : ¬ s.pc ≥ 256) (hf : fitsNow m s.pc.toNat = true) : coreStep proofsMemo s m = behind s m := by
 unfold coreStep behind
 have e : proofsMemo.load m s.pc = some (⟨m.rest.drop 20, m.root, m.texts ++ pfTexts m.rest s.pc.toNat⟩, numTo m.rest 0 4, 0) := by
  simp only [proofsMemo, hp, hf, if_false, if_true]
 simp only [h, e, if_false, Bool.false_eq_true, ne_eq, not_true_eq_false]
 generalize perform proofsMemo s _ _ = o
 cases o <;> rfl
def ended (o : Option (Cs × Pm × Int)) : Option (Cs × Pm × Int) := match o with
 | none => none
 | some r => if r.2.1.rest.length = 0 then some r else none
theorem heard_ended (stamp : Int) (l : List UInt8) (h47 : 47 ≤ l.length) (hb : (l.getD 12 0).toNat ≤ 1) (hs : sum (l.take 47) = stamp) : heard stamp l = ended (coreStep proofsMemo (unlab l) ⟨l.drop 47, unroot l, []⟩) := by
 unfold heard
 rw [if_pos ⟨h47, hb, by rw [label_unlab l h47 hb]; exact hs⟩]
 rfl
theorem heard_none (stamp : Int) (l : List UInt8) (h : ¬ (47 ≤ l.length ∧ (l.getD 12 0).toNat ≤ 1 ∧ sum (l.take 47) = stamp)) : heard stamp l = none := by
 unfold heard
 rw [if_neg]
 rintro ⟨h1, h2, h3⟩
 exact h ⟨h1, h2, by rw [← label_unlab l h1 h2]; exact h3⟩
theorem checked_doc (stamp : Int) (l : List UInt8) : checked stamp l = docCheck stamp l := by
 unfold checked
 by_cases hc : 47 ≤ l.length ∧ (l.getD 12 0).toNat ≤ 1 ∧ sum (l.take 47) = stamp
 ·obtain ⟨h47, hb, hs⟩ := hc
  rw [heard_ended stamp l h47 hb hs]
  have hlab := label_unlab l h47 hb
  unfold docCheck
  rw [if_neg (by intro h; rcases h with h | h; omega; exact h hs), if_neg (by omega)]
  have hst : Dp.stamp (unlab l) (unroot l) = stamp := by unfold Dp.stamp; rw [hlab]; exact hs
  generalize hS : unlab l = s at *
  generalize hR : unroot l = R at *
  have hd47 : (l.drop 47).length = l.length - 47 := List.length_drop
  cases hov : s.over with
  | true =>
   rw [step_over s _ hov, if_pos (.inl rfl)]
   unfold ended toldBy
   simp only [hd47]
   by_cases h : l.length = 47
   ·simp [h, hst]
   ·have h' : ¬ l.length - 47 = 0 := by omega
    simp [h, h']
  | false =>
   by_cases hpc : s.pc ≥ 256
   ·rw [step_far s _ hov hpc, if_pos (.inr hpc)]
    unfold ended toldBy
    simp only [hd47]
    by_cases h : l.length = 47
    ·simp [h]
    ·have h' : ¬ l.length - 47 = 0 := by omega
     simp [h, h']
   ·rw [if_neg (by rintro (h | h); simp at h; exact hpc h)]
    cases hf : fits l 47 s.pc.toNat R with
    | false =>
     rw [if_pos rfl, step_unfit s _ hov hpc (by rw [← fits_now]; exact hf)]
     rfl
    | true =>
     rw [if_neg (by simp), step_fit s _ hov hpc (by rw [← fits_now]; exact hf)]
     have h67 : 67 ≤ l.length := by
      unfold fits at hf
      simp only [Bool.and_eq_true, decide_eq_true_eq] at hf
      omega
     unfold behind
     simp only
     rw [numTo_drop, Nat.add_zero, List.drop_drop]
     simp only [Nat.reduceAdd, List.nil_append]
     generalize decode (numTo l 47 4) = i at *
     generalize pfTexts (l.drop 47) s.pc.toNat = T1 at *
     have hd67 : (l.drop 67).length = l.length - 67 := List.length_drop
     unfold perform
     by_cases h13 : i.op = 13
     ·rw [if_pos h13, if_pos (.inl h13)]
      unfold docCell
      by_cases hn : wrap (s.reg i.b + i.n) ≥ 256
      ·simp only [proofsMemo, hn, if_true]
       unfold ended toldBy
       by_cases h : l.length = 67
       ·simp [h, hd67]
       ·have : ¬ l.length - 67 = 0 := by omega
        simp [h, hd67, this]
      ·rw [if_neg hn]
       cases hf2 : fits l 67 (wrap (s.reg i.b + i.n)).toNat R with
       | false =>
        have hf3 := hf2
        rw [fits_now l 67 _ R T1] at hf3
        simp only [proofsMemo, hn, hf3, if_false, Bool.false_eq_true]
        unfold ended toldBy
        simp
       | true =>
        have hf3 := hf2
        rw [fits_now l 67 _ R T1] at hf3
        simp only [proofsMemo, hn, hf3, if_false, if_true, ne_eq, not_true_eq_false]
        unfold ended toldBy
        have h14 : ¬ i.op = 14 := by omega
        simp only [List.drop_drop, Nat.reduceAdd, List.length_drop, numTo_drop, Nat.add_zero, Bool.true_eq_false, false_or, h14, if_false]
        by_cases h : l.length = 87
        ·rw [if_pos (by omega), if_neg (by omega)]
         rfl
        ·have h87 : 87 ≤ l.length := by
          unfold fits at hf2
          simp only [Bool.and_eq_true, decide_eq_true_eq] at hf2
          omega
         rw [if_neg (by omega), if_pos h]
     ·rw [if_neg h13]
      by_cases h14 : i.op = 14
      ·rw [if_pos h14, if_pos (.inr h14)]
       unfold docCell
       by_cases hn : wrap (s.reg i.b + i.n) ≥ 256
       ·simp only [proofsMemo, hn, if_true]
        unfold ended toldBy
        by_cases h : l.length = 67
        ·simp [h, hd67]
        ·have : ¬ l.length - 67 = 0 := by omega
         simp [h, hd67, this]
       ·rw [if_neg hn]
        cases hf2 : fits l 67 (wrap (s.reg i.b + i.n)).toNat R with
        | false =>
         have hf3 := hf2
         rw [fits_now l 67 _ R T1] at hf3
         simp only [proofsMemo, hn, hf3, if_false, Bool.false_eq_true]
         unfold ended toldBy
         simp
        | true =>
         have hf3 := hf2
         rw [fits_now l 67 _ R T1] at hf3
         simp only [proofsMemo, hn, hf3, if_false, if_true, ne_eq, not_true_eq_false]
         unfold ended toldBy
         simp only [List.drop_drop, Nat.reduceAdd, List.length_drop, Bool.true_eq_false, false_or, h14, if_true]
         by_cases h : l.length = 87
         ·rw [if_pos (by omega), if_neg (by omega)]
          rfl
         ·have h87 : 87 ≤ l.length := by
           unfold fits at hf2
           simp only [Bool.and_eq_true, decide_eq_true_eq] at hf2
           omega
          rw [if_neg (by omega), if_pos h]
      ·rw [if_neg h14, if_neg (show ¬ (i.op = 13 ∨ i.op = 14) by omega)]
       by_cases h19 : i.op = 19
       ·rw [if_pos h19, if_pos h19]
        have e0 : (l.drop 67).getD 0 0 = l.getD 67 0 := by simp [List.getD_eq_getElem?_getD]
        have esz : srcSize (l.drop 67) = (l.getD 67 0).toNat := by unfold srcSize; rw [e0]
        have ed : (l.drop 67).drop 1 = l.drop 68 := by rw [List.drop_drop]
        have ex : srcNext (l.drop 67) = (l.drop 68).take (l.getD 67 0).toNat := by unfold srcNext; rw [esz, ed]
        generalize l.getD 67 0 = B at *
        by_cases hall : 68 ≤ l.length ∧ B.toNat ≤ 200 ∧ l.length = 68 + B.toNat ∧ sum (l.drop 68) = s.reg i.b
        ·obtain ⟨a1, a2, a3, a4⟩ := hall
         have et : (l.drop 68).take B.toNat = l.drop 68 := List.take_of_length_le (by rw [List.length_drop]; omega)
         rw [et] at ex
         have hthere : srcThere (l.drop 67) (s.reg i.b) = true := by
          unfold srcThere
          rw [esz, ex, hd67, a4]
          simp
          omega
         have hsrc : proofsMemo.source ⟨l.drop 67, R, T1⟩ (s.reg i.b) = some (⟨(l.drop 67).drop (1 + B.toNat), R, T1 ++ [l.drop 68]⟩, l.drop 68, 0) := by
          simp only [proofsMemo, hthere, if_true, esz, ex]
         simp only [hsrc, ne_eq, not_true_eq_false, if_false]
         unfold ended toldBy
         simp only [List.length_drop]
         rw [if_pos (by omega), if_neg (by omega)]
         rfl
        ·rw [if_pos (by omega)]
         cases hthere : srcThere (l.drop 67) (s.reg i.b) with
         | false =>
          simp only [proofsMemo, hthere, Bool.false_eq_true, if_false]
          rfl
         | true =>
          have hsrc : proofsMemo.source ⟨l.drop 67, R, T1⟩ (s.reg i.b) = some (⟨(l.drop 67).drop (1 + B.toNat), R, T1 ++ [srcNext (l.drop 67)]⟩, srcNext (l.drop 67), 0) := by
           simp only [proofsMemo, hthere, if_true, esz]
          simp only [hsrc, ne_eq, not_true_eq_false, if_false]
          unfold ended toldBy
          simp only [List.length_drop]
          unfold srcThere at hthere
          rw [esz, ex, hd67] at hthere
          simp only [Bool.and_eq_true, decide_eq_true_eq, beq_iff_eq] at hthere
          obtain ⟨⟨⟨a1, a2⟩, a3⟩, a4⟩ := hthere
          rw [if_neg]
          intro h0
          apply hall
          have et : (l.drop 68).take B.toNat = l.drop 68 := List.take_of_length_le (by rw [List.length_drop]; omega)
          rw [et] at a4
          exact ⟨by omega, a2, by omega, a4⟩
       ·rw [if_neg h19, if_neg h19]
        simp only
        have hst2 := still_step s i
        by_cases hp : (plain s i).2 = 0
        ·have e0 : (still s i).2 = 0 := hp
         rw [if_neg (by simpa using e0)] at hst2 ⊢
         unfold ended toldBy
         simp only [hd67]
         have e1 : (plain s i).1 = { (still s i).1 with steps := wrap ((still s i).1.steps + 1) } := (congrArg Prod.fst hst2).symm
         by_cases h : l.length = 67
         ·rw [if_pos (by omega), if_neg (by omega), if_neg (by simpa using hp), e1]
          rfl
         ·rw [if_neg (by omega), if_pos h]
        ·have e0 : (still s i).2 ≠ 0 := hp
         have e1 : (still s i).2 = (plain s i).2 := rfl
         rw [if_pos e0]
         unfold ended toldBy
         simp only [hd67]
         by_cases h : l.length = 67
         ·rw [if_pos (by omega), if_neg (by omega), if_pos (by simpa using hp)]
          simp only [e1, hp, if_false]
         ·rw [if_neg (by omega), if_pos h]
 ·rw [heard_none stamp l hc]
  unfold docCheck toldBy
  by_cases h1 : l.length < 47 ∨ sum (l.take 47) ≠ stamp
  ·rw [if_pos h1]
  ·rw [if_neg h1]
   by_cases h2 : (l.getD 12 0).toNat ≤ 1
   ·exfalso
    apply hc
    refine ⟨by omega, h2, ?_⟩
    exact Classical.byContradiction fun h => h1 (.inr h)
   ·rw [if_pos h2]
end Dp
end Go.Proofs.YtdipojfngdceoaaGreatDoor

namespace Go.Proofs.YtdipojfngdceoaaGreatDoor
namespace Dp
open Go.RowKit
theorem run_append_Own0 {P : Program} (w : World) (t ty e : TypeId) (i : TypeInfo) (ht : P.underlying t = some (.slice e)) (hi : P.info? e = some i) (v : Value) (xs : List Value) (hown : Own w e v xs) (ad : Option Addr) (c : Nat) :
  (Builtin.append_ #[t, t] ty #[v, .slice ad 0 c]).run P w = .ok v w := by
 rcases hown with ⟨rfl, rfl⟩ | ⟨g, tail, rfl, hr, hm⟩
 ·cases ad with
  | none => simp [Builtin.append_, run_underlying ht, sizeOf, typeInfo, hi, Builtin.lenOf, Builtin.firstCells]
  | some a => simp [Builtin.append_, run_underlying ht, sizeOf, typeInfo, hi, Builtin.lenOf, Builtin.firstCells, loadCells, loadCellsFrom, Result.andThen]
 ·cases ad with
  | none => simp [Builtin.append_, run_underlying ht, sizeOf, typeInfo, hi, Builtin.lenOf, Builtin.firstCells, storeCells]
  | some a => simp [Builtin.append_, run_underlying ht, sizeOf, typeInfo, hi, Builtin.lenOf, Builtin.firstCells, storeCells, loadCells, loadCellsFrom, Result.andThen]
theorem run_append_Both {P : Program} (w : World) (t ty e : TypeId) (z : Value) (bytes : Nat) (ht : P.underlying t = some (.slice e)) (hinfo : (P.info? e).map (fun i => (i.zero, i.size, i.bytes)) = some (some z, 1, bytes)) (hz1 : z.cells.size = 1)
  (v : Value) (xs : List Value) (hown : Own w e v xs) (vx : Value) (news : List Value) (hx : Own w e vx news) (h1 : ∀ u ∈ news, u.oneCell' = true) (h63 : xs.length + news.length ≤ maxLen) (hbytes : (xs.length + news.length) * bytes ≤ 140737488355328) :
  ∃ v' w', (Builtin.append_ #[t, t] ty #[v, vx]).run P w = .ok v' w' ∧ Own w' e v' (xs ++ news) ∧ Keeps (fun k => v.ownBlock = some k) w w' ∧
   (v'.ownBlock = v.ownBlock ∧ w'.heap.size = w.heap.size ∨ v'.ownBlock = some w.heap.size ∧ w'.heap.size = w.heap.size + 1) := by
 by_cases hn : news = []
 ·subst hn
  obtain ⟨i, hi, _, _, _⟩ := info_parts hinfo
  obtain ⟨ad, cap, hv⟩ := hx.isSlice
  refine ⟨v, w, ?_, by simpa using hown, Keeps.refl _ _, .inl ⟨rfl, rfl⟩⟩
  rw [hv]
  exact run_append_Own0 w t ty e i ht hi v xs hown ad cap
 ·rcases hx with ⟨_, h⟩ | ⟨g, tail, rfl, hr, hm⟩
  ·exact absurd h hn
  ·refine run_append_Own w t ty e z bytes ht hinfo hz1 v xs hown ⟨g, 0, none⟩ _ news (fun j u hj => ?_) h1 (by cases news with | nil => exact absurd rfl hn | cons a b => simp) h63 hbytes
   have hlt : j < news.length := (List.getElem?_eq_some_iff.1 hj).1
   rw [add_zero_off, hr.cell, List.getElem?_append_left hlt]; exact hj
theorem wpList_append_Both {P : Program} {w : World} {ops : Array Oper} {rest : List Oper} {o : Oper} {a : Act} {Q : Exit → Act → World → Prop} (hgd : o.guard = none) (s x : Operand) (t : TypeId)
  (ho : o.op = .call { callee := .builtin .append, args := #[s, x], argTypes := #[t, t] }) (e : TypeId) (z : Value) (bytes : Nat) (ht : P.underlying t = some (.slice e)) (hinfo : (P.info? e).map (fun i => (i.zero, i.size, i.bytes)) = some (some z, 1, bytes)) (hz1 : z.cells.size = 1)
  (v : Value) (xs : List Value) (hs : a.eval s = v) (hown : Own w e v xs) (vx : Value) (news : List Value) (hxv : a.eval x = vx) (hx : Own w e vx news) (h1 : ∀ u ∈ news, u.oneCell' = true) (h63 : xs.length + news.length ≤ maxLen) (hbytes : (xs.length + news.length) * bytes ≤ 140737488355328)
  (h : ∀ v' w', Own w' e v' (xs ++ news) → Keeps (fun k => v.ownBlock = some k) w w' → Hid (v'.ownBlock = v.ownBlock ∧ w'.heap.size = w.heap.size ∨ v'.ownBlock = some w.heap.size ∧ w'.heap.size = w.heap.size + 1) → wpList P ops Q rest (a.put o.dst v') w') :
  wpList P ops Q (o :: rest) a w := by
 refine wpList_plain hgd fun K hK => ?_
 obtain ⟨v', w', hr, h2, h3, h4⟩ := run_append_Both (P := P) w t o.type e z bytes ht hinfo hz1 v xs hown vx news hx h1 h63 hbytes
 unfold Oper.wp execOp
 simp only [ho, resolve, invoke, builtin, Sem.run_bind, Sem.run_pure, Result.andThen_ok, List.map_toArray, List.map_cons, List.map_nil, hs, hxv, hr]
 exact hK _ _ (h v' w' h2 h3 h4)
end Dp
end Go.Proofs.YtdipojfngdceoaaGreatDoor

namespace Go.Proofs.YtdipojfngdceoaaGreatDoor
open Go.RowKit
namespace Dp
theorem wpList_build_two {P : Program} {w : World} {ops : Array Oper} {rest : List Oper} {o : Oper} {a : Act} {Q : Exit → Act → World → Prop} (hgd : o.guard = none) (t : TypeId) (i j : Nat) (x y : Operand) (ho : o.op = .build t #[(i, x), (j, y)]) (u1 u2 v : Value) (hx : a.eval x = u1) (hy : a.eval y = u2)
  (hrun : (Instr.build t #[(i, u1), (j, u2)]).run P w = .ok v w) (h : Hid True → wpList P ops Q rest (a.put o.dst v) w) : wpList P ops Q (o :: rest) a w := by
 refine wpList_plain hgd fun K hK => ?_
 have e : (execOp a.eval o).run P w = .ok (.value v) w := by
  unfold execOp
  simp only [ho, List.map_toArray, List.map_cons, List.map_nil, hx, hy, Sem.run_bind, hrun, Result.andThen_ok, Sem.run_pure]
 unfold Oper.wp
 rw [e]
 exact hK _ _ (h trivial)
theorem wpList_binop {P : Program} {w : World} {ops : Array Oper} {rest : List Oper} {o : Oper} {a : Act} {Q : Exit → Act → World → Prop} (hgd : o.guard = none) (b : BinOp) (t t2 : TypeId) (x y : Operand) (ho : o.op = .binOp b t x y t2) (u1 u2 v : Value) (hx : a.eval x = u1) (hy : a.eval y = u2)
  (hgu : eqGuard b t x y u1 u2 = pure ()) (hrun : (binOp b t u1 u2).run P w = .ok v w) (h : Hid True → wpList P ops Q rest (a.put o.dst v) w) : wpList P ops Q (o :: rest) a w := by
 refine wpList_plain hgd fun K hK => ?_
 have e : (execOp a.eval o).run P w = .ok (.value v) w := by
  unfold execOp
  simp [ho, hx, hy, hgu, hrun, Result.andThen]
 unfold Oper.wp
 rw [e]
 exact hK _ _ (h trivial)
end Dp
namespace Dp
def sib (n k : Nat) : Nat := if n / 2 ^ k % 2 = 0 then n / 2 ^ k * 2 ^ k + 2 ^ k else n / 2 ^ k * 2 ^ k - 2 ^ k
def proofTo (cells : List Int) (n : Nat) : Nat → List UInt8
 | 0 => four (cells.getD n 0)
 | k + 1 => proofTo cells n k ++ two (digest cells (sib n k) k)
def proof (cells : List Int) (n : Nat) : List UInt8 := proofTo cells n 8
theorem proofTo_length (cells : List Int) (n k : Nat) : (proofTo cells n k).length = 4 + 2 * k := by
 induction k with
 | zero => rfl
 | succ k ih => unfold proofTo; rw [List.length_append, ih, two_length]; omega
theorem sib_bd (n k : Nat) (hn : n < 256) (hk : k < 8) : sib n k + 2 ^ k ≤ 256 := by
 unfold sib
 rcases (by omega : k = 0 ∨ k = 1 ∨ k = 2 ∨ k = 3 ∨ k = 4 ∨ k = 5 ∨ k = 6 ∨ k = 7) with rfl | rfl | rfl | rfl | rfl | rfl | rfl | rfl <;> simp only [Nat.reducePow] <;> split <;> omega
theorem pow_bd (k : Nat) (hk : k < 8) : 1 ≤ 2 ^ k ∧ 2 ^ k ≤ 128 := by
 rcases (by omega : k = 0 ∨ k = 1 ∨ k = 2 ∨ k = 3 ∨ k = 4 ∨ k = 5 ∨ k = 6 ∨ k = 7) with rfl | rfl | rfl | rfl | rfl | rfl | rfl | rfl <;> simp
end Dp
end Go.Proofs.YtdipojfngdceoaaGreatDoor
