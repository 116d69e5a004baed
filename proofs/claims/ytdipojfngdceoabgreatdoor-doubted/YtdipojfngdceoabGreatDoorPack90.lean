/- Steps on the way: KeepOpened, KeepRow, PureDispute, PureHonest, KeepRuns, OwnPairs. -/
import Derived.Test.YtdipojfngdceoabGreatDoorPack01
import Derived.Test.YtdipojfngdceoabGreatDoorPack69
import Derived.Test.YtdipojfngdceoabGreatDoorPack84
/- A machine of raw numbers and texts, some steps on. -/
namespace Go.Proofs.YtdipojfngdceoabGreatDoor
open Go.RowKit

namespace Dp
theorem own_ints {w : World} {e : TypeId} {v : Value} {xs : List Int} (h : Own w e v (regCells xs)) (hl : xs.length ≤ 1048576) : Ints w v xs := by
  rcases h with ⟨rfl, h2⟩ | ⟨g, tail, rfl, h2, h3⟩
  · have : xs = [] := by cases xs with
      | nil => rfl
      | cons a b => simp [regCells] at h2
    subst this
    exact ⟨0, 0, none, 0, rfl, by simp, fun e => absurd rfl e, fun j hj => absurd hj (by simp)⟩
  · have hx : (regCells xs).length = xs.length := by simp [regCells]
    rw [hx]
    exact ints_row h2 hl
theorem raw_ok (raw : List Int) (texts : List (List UInt8)) : newOk (wordsRaw raw) (srcsRaw texts) = true := by
  unfold newOk
  simp only [Bool.and_eq_true, decide_eq_true_eq, List.all_eq_true]
  refine ⟨⟨⟨by simp [wordsRaw]; omega, by simp [srcsRaw]; omega⟩, ?_⟩, ?_⟩
  · intro x hx
    simp only [wordsRaw, List.mem_map] at hx
    obtain ⟨y, _, rfl⟩ := hx
    exact pickOf_bd y 4294967296 (by omega)
  · intro l hl
    simp only [srcsRaw, List.mem_map] at hl
    obtain ⟨y, _, rfl⟩ := hl
    exact cut200_length y
def openedMach (raw : List Int) (texts : List (List UInt8)) (ahead : Int) : Mach := (Mach.run (pickOf ahead 300).toNat (newMach (wordsRaw raw) (srcsRaw texts))).1
end Dp

set_option maxRecDepth 100000 in
set_option maxHeartbeats 1000000 in
theorem keepOpened (w : World) (v vt : Value) (raw : List Int) (texts : List (List UInt8)) (ahead : Int) (hW : Dp.IntsW w v raw) (h64 : ∀ x ∈ raw, -9223372036854775808 ≤ x ∧ x ≤ 9223372036854775807) (hT : Dp.TextsW w vt texts) (ha : -9223372036854775808 ≤ ahead ∧ ahead ≤ 9223372036854775807) :
    Calls Tryz.prog 8 #[v, vt, .int .i64 ahead] w fun e w' => (∃ b vs G, e = .returned (.pointer (some ⟨b, 0, none⟩)) ∧ w.heap.size ≤ b ∧ (∀ q, G q → w.heap.size ≤ q) ∧ Dp.ProgM w' b G vs (Dp.openedMach raw texts ahead)) ∧ Dp.Keeps (fun _ => False) w w' := by
  have HT := Hid.mk_ hT
  have HMA : Hid (Dp.openedMach raw texts ahead = (Dp.Mach.run (Dp.pickOf ahead 300).toNat (Dp.newMach (Dp.wordsRaw raw) (Dp.srcsRaw texts))).1) := rfl
  have hpb := Dp.pickOf_bd ahead 300 (by omega)
  clear hT
  go_enter Tryz.func8, Tryz.ntmps8
  go_wp2_with fail
  refine (keepWords w v raw hW h64).mono ?_
  rintro e w1 ⟨v1, rfl, ho1, hf1, k1⟩
  have HI := Hid.mk_ (Dp.own_ints ho1 (by simp [Dp.wordsRaw]; omega))
  clear ho1 hf1
  go_wp2_with fail
  refine (keepSources w1 vt texts (HT.out.still k1)).mono ?_
  rintro e w2 ⟨v2, rfl, hp2, k2⟩
  have HP := Hid.mk_ hp2
  have HK2 := Hid.mk_ (k1.trans k2)
  have HI2 := Hid.mk_ (HI.out.still k2)
  clear k1 k2 hp2 HI
  go_wp2_with fail
  refine (progNew w2 v1 v2 _ _ HI2.out HP.out (Dp.raw_ok raw texts)).mono ?_
  rintro e w3 ⟨⟨b, vs, G, rfl, hb, hG, hM⟩, k3⟩
  have HM := Hid.mk_ hM
  have hs2 := HK2.out.size
  have hb' : w.heap.size ≤ b := by omega
  have HG : Hid (∀ q, G q → w.heap.size ≤ q) := fun q hq => by have := hG q hq; omega
  have HK3 := Hid.mk_ (HK2.out.trans k3)
  clear hM hG hb k3 HK2 HI2 HP hs2
  go_wp2_with fail
  refine (keepPick ahead 300 _ ha (by omega) (by omega)).mono ?_
  rintro e w4 ⟨rfl, rfl⟩
  obtain ⟨n, hn⟩ : ∃ n : Nat, Dp.pickOf ahead 300 = (n : Int) := ⟨(Dp.pickOf ahead 300).toNat, by omega⟩
  rw [hn] at HMA hpb ⊢
  rw [Int.toNat_natCast] at HMA
  go_wp2_with fail
  refine (progMRun w4 b G vs _ HM.out n (by omega)).mono ?_
  rintro e w5 ⟨rfl, k5, hM5⟩
  have HM5 : Hid (Dp.ProgM w5 b G vs (Dp.openedMach raw texts ahead)) := by rw [HMA.out]; exact hM5
  have HK5 : Hid (Dp.Keeps (fun _ => False) w w5) := HK3.out.next k5 (fun q hq e => by omega)
  clear hM5 k5 HK3 HM
  generalize (Dp.Mach.run n (Dp.newMach (Dp.wordsRaw raw) (Dp.srcsRaw texts))).2.1 = A1 at *
  generalize (Dp.Mach.run n (Dp.newMach (Dp.wordsRaw raw) (Dp.srcsRaw texts))).2.2 = A2 at *
  go_wp2
  go_ret
  exact ⟨⟨b, vs, G, rfl, hb', HG.out, HM5.out⟩, HK5.out⟩
end Go.Proofs.YtdipojfngdceoabGreatDoor

/- A row of numbers, written into. -/
namespace Go.Proofs.YtdipojfngdceoabGreatDoor
open Go.RowKit
namespace Dp
theorem regCells_len (l : List Int) : (regCells l).length = l.length := by simp [regCells]
theorem ints_set {w : World} {g : Nat} {e : TypeId} {L : List Int} (h : Row w g e (regCells L)) (i : Nat) (x : Int) : Row (w.setCell ⟨g, i, none⟩ (.int .i64 x)) g e (regCells (L.set i x)) := by
  have := h.set i (.int .i64 x)
  rwa [show (regCells L).set i (.int .i64 x) = regCells (L.set i x) by simp [regCells, List.map_set]] at this
theorem regCells_one (l : List Int) : ∀ v ∈ regCells l, v.oneCell' = true := by
  intro v hv
  simp only [regCells, List.mem_map] at hv
  obtain ⟨x, _, rfl⟩ := hv
  rfl
end Dp
end Go.Proofs.YtdipojfngdceoabGreatDoor

/- What moves leave of a dispute. No program is named here. -/
namespace Go.Proofs.YtdipojfngdceoabGreatDoor
namespace Dp
/-- The stamps at the ends, behind some moves. -/
def endsOf : List (Int × Bool) → Int → Int → Int × Int
  | [], a, b => (a, b)
  | m :: ms, a, b => if m.2 then endsOf ms a m.1 else endsOf ms m.1 b
/-- Which step is left. -/
def numFrom : List (Int × Bool) → Int → Int
  | [], n => n
  | m :: ms, n => numFrom ms (2 * n + (if m.2 then 0 else 1))
theorem endsOf_snoc : ∀ (ms : List (Int × Bool)) (m : Int × Bool) (a b : Int), endsOf (ms ++ [m]) a b = if m.2 then ((endsOf ms a b).1, m.1) else (m.1, (endsOf ms a b).2)
  | [], m, a, b => by
    simp only [List.nil_append, endsOf]
  | x :: ms, m, a, b => by
    simp only [List.cons_append, endsOf]
    split
    · exact endsOf_snoc ms m a x.1
    · exact endsOf_snoc ms m x.1 b
theorem numFrom_snoc : ∀ (ms : List (Int × Bool)) (m : Int × Bool) (n : Int), numFrom (ms ++ [m]) n = 2 * numFrom ms n + (if m.2 then 0 else 1)
  | [], m, n => rfl
  | x :: ms, m, n => by
    simp only [List.cons_append, numFrom]
    exact numFrom_snoc ms m _
theorem numFrom_bd : ∀ (ms : List (Int × Bool)) (n : Int) (k : Nat), 0 ≤ n → n < 2 ^ k → 0 ≤ numFrom ms n ∧ numFrom ms n < 2 ^ (k + ms.length)
  | [], n, k, h0, h1 => ⟨h0, by simpa [numFrom] using h1⟩
  | m :: ms, n, k, h0, h1 => by
    have hp : (2 : Int) ^ (k + 1) = 2 * 2 ^ k := by rw [Int.pow_succ]; omega
    have h := numFrom_bd ms (2 * n + (if m.2 then 0 else 1)) (k + 1) (by split <;> omega) (by split <;> omega)
    rw [show k + (m :: ms).length = k + 1 + ms.length by simp; omega]
    exact h
theorem numStep (ms : List (Int × Bool)) (k : Nat) (hlt : k < ms.length) (hn : ms.length ≤ 16) (x : Int) (lf : Bool) (hM : ms[k] = (x, lf)) (fr sz : Int) (h : fr = numFrom (ms.take k) 0 * ((2 ^ (ms.length - k) : Nat) : Int) ∧ sz = ((2 ^ (ms.length - k) : Nat) : Int)) :
    (0 ≤ fr ∧ fr ≤ 1000000) ∧ (0 ≤ sz ∧ sz ≤ 1000000) ∧ (if lf then fr else fr + sz / 2) = numFrom (ms.take (k + 1)) 0 * ((2 ^ (ms.length - (k + 1)) : Nat) : Int) ∧ sz / 2 = ((2 ^ (ms.length - (k + 1)) : Nat) : Int) := by
  obtain ⟨h1, h2⟩ := h
  have hb := numFrom_bd (ms.take k) 0 0 (Int.le_refl _) (by decide)
  have hlen : (ms.take k).length = k := by rw [List.length_take]; omega
  rw [hlen, Nat.zero_add] at hb
  have e1 : ms.length - k = ms.length - (k + 1) + 1 := by omega
  have ht : ms.take (k + 1) = ms.take k ++ [(x, lf)] := by rw [← hM]; exact List.take_succ_eq_append_getElem hlt
  have hp : ((2 ^ (ms.length - k) : Nat) : Int) = 2 * ((2 ^ (ms.length - (k + 1)) : Nat) : Int) := by rw [e1, Nat.pow_succ]; push_cast; omega
  have hkk : (2 : Int) ^ k = ((2 ^ k : Nat) : Int) := by push_cast; rfl
  have hs16 : 2 ^ k * 2 ^ (ms.length - k) ≤ 2 ^ 16 := by rw [← Nat.pow_add]; exact Nat.pow_le_pow_right (by decide) (by omega)
  have hs1 : 2 ^ (ms.length - k) ≤ 2 ^ 16 := Nat.pow_le_pow_right (by decide) (by omega)
  rw [ht, numFrom_snoc]
  generalize numFrom (ms.take k) 0 = A at *
  generalize 2 ^ (ms.length - (k + 1)) = q at *
  rw [hkk] at hb
  generalize 2 ^ (ms.length - k) = p at *
  generalize 2 ^ k = r at *
  have hfr : A * (p : Int) ≤ (r : Int) * (p : Int) := Int.mul_le_mul_of_nonneg_right (by omega) (by omega)
  have hfr0 : 0 ≤ A * (p : Int) := Int.mul_nonneg hb.1 (by omega)
  have hrp : ((r * p : Nat) : Int) = (r : Int) * (p : Int) := by push_cast; rfl
  have hs16' : ((r * p : Nat) : Int) ≤ 65536 := by omega
  have hd : sz / 2 = (q : Int) := by omega
  refine ⟨⟨by omega, by omega⟩, ⟨by omega, by omega⟩, ?_, hd⟩
  rw [hd, h1, hp]
  cases lf with
  | true => simp; rw [Int.mul_comm 2 A, Int.mul_assoc]
  | false => simp; rw [Int.add_mul, Int.mul_comm 2 A, Int.mul_assoc]; omega
end Dp
end Go.Proofs.YtdipojfngdceoabGreatDoor

/- Disputes of one who says the right stamps: what the moves leave. No program is named here. -/
namespace Go.Proofs.YtdipojfngdceoabGreatDoor
namespace Dp
theorem after_shift (m : Mach) : ∀ j, Mach.after m.step.1 j = Mach.after m (j + 1)
  | 0 => rfl
  | j + 1 => by show ((Mach.after m.step.1 j).step).1 = _; rw [after_shift m j]; rfl
theorem step_over_same (m : Mach) (h : m.s.over = true) : m.step = (m, 0) := by unfold Mach.step; rw [if_pos h]
theorem after_over (m : Mach) (h : m.s.over = true) : ∀ k, Mach.after m k = m
  | 0 => rfl
  | k + 1 => by show ((Mach.after m k).step).1 = m; rw [after_over m h k, step_over_same m h]
/-- None of the first n steps is an error. -/
def Goes (m : Mach) (n : Nat) : Prop := ∀ i, i < n → (Mach.after m i).step.2 = 0
theorem run_goes : ∀ (n : Nat) (m : Mach), Goes m n → (Mach.run n m).1 = Mach.after m n ∧ (Mach.run n m).2.2 = 0
  | 0, m, _ => ⟨rfl, rfl⟩
  | n + 1, m, h => by
    unfold Mach.run
    by_cases ho : m.s.over = true
    · rw [if_pos ho]
      exact ⟨(after_over m ho (n + 1)).symm, rfl⟩
    · have h0 : m.step.2 = 0 := h 0 (by omega)
      rw [if_neg ho, if_neg (by simp [h0])]
      obtain ⟨e1, e2⟩ := run_goes n m.step.1 (fun i hi => by rw [after_shift]; exact h (i + 1) (by omega))
      exact ⟨by show (Mach.run n m.step.1).1 = _; rw [e1, after_shift], e2⟩
/-- The stamp, i steps on. -/
def stAt (m : Mach) (i : Nat) : Int := stamp (Mach.after m i).s (root (Mach.after m i).cells)
def stList (m : Mach) (n : Nat) : List Int := (List.range n).map (stAt m)
theorem stList_length (m : Mach) (n : Nat) : (stList m n).length = n := by simp [stList]
theorem stList_at (m : Mach) (n i : Nat) (h : i < (stList m n).length) : (stList m n)[i] = stAt m i := by simp [stList]
theorem stList_succ (m : Mach) (n : Nat) : stList m n ++ [stAt m n] = stList m (n + 1) := by simp [stList, List.range_succ]
theorem numFrom_snd : ∀ (ms : List (Int × Bool)) (n : Int), numFrom ms n = numFrom (ms.map fun m => ((0 : Int), m.2)) n
  | [], _ => rfl
  | m :: ms, n => by simp only [List.map_cons, numFrom]; exact numFrom_snd ms _
/-- Which step is left, by the answers alone. -/
def askedNum (asked : List Bool) : Int := numFrom (asked.map fun b => ((0 : Int), b)) 0
/-- Of a dispute over 2 to the power D steps: the moves so far, and what is left. -/
structure Left2 (L : Nat → Int) (D : Nat) (last : Int) (ms : List (Int × Bool)) (at_ size : Nat) : Prop where
  len : ms.length ≤ D
  siz : size = 2 ^ (D - ms.length)
  fst : (endsOf ms (L 0) last).1 = L at_
  num : numFrom ms 0 * (size : Int) = (at_ : Int)
  le : at_ + size ≤ 2 ^ D
theorem Left2.start (L : Nat → Int) (D : Nat) (last : Int) : Left2 L D last [] 0 (2 ^ D) := ⟨Nat.zero_le _, rfl, rfl, by simp [numFrom], by simp⟩
theorem Left2.half {L : Nat → Int} {D : Nat} {last : Int} {ms : List (Int × Bool)} {at_ size : Nat} (h : Left2 L D last ms at_ size) (hl : ms.length < D) : size = 2 * (size / 2) ∧ size / 2 = 2 ^ (D - (ms.length + 1)) := by
  have e : D - ms.length = (D - (ms.length + 1)) + 1 := by omega
  have h1 := h.siz
  rw [e, Nat.pow_succ] at h1
  omega
/-- Left is said where the middle's stamp is wrong: not at all, or the stamp is another one. -/
theorem Left2.step {L : Nat → Int} {D : Nat} {last : Int} {ms : List (Int × Bool)} {at_ size : Nat} (h : Left2 L D last ms at_ size) (hl : ms.length < D) (x : Int) (left : Bool) (hx : left = false → x = L (at_ + size / 2)) :
    Left2 L D last (ms ++ [(x, left)]) (if left then at_ else at_ + size / 2) (size / 2) := by
  obtain ⟨h1, h2⟩ := h.half hl
  have hn := h.num
  have hle := h.le
  refine ⟨by rw [List.length_append]; simp; omega, by rw [List.length_append]; simpa using h2, ?_, ?_, ?_⟩
  · rw [endsOf_snoc]
    cases left with
    | true => simpa using h.fst
    | false => simpa using hx rfl
  · rw [numFrom_snoc]
    generalize size / 2 = q at *
    subst h1
    cases left with
    | true =>
      simp only [if_true]
      rw [Int.add_zero, Int.mul_comm 2, Int.mul_assoc]
      rw [← hn]; push_cast; rfl
    | false =>
      simp only [Bool.false_eq_true, if_false]
      rw [Int.add_mul, Int.mul_comm 2, Int.mul_assoc, Int.one_mul]
      have : ((at_ + q : Nat) : Int) = (at_ : Int) + q := by push_cast; rfl
      rw [this, ← hn]; push_cast; rfl
  · cases left <;> simp <;> omega
/-- The right-hand end, where only right stamps are said. -/
theorem Left2.right {L : Nat → Int} {D : Nat} {ms : List (Int × Bool)} {at_ size : Nat} (h : Left2 L D (L (2 ^ D)) ms at_ size) (hl : ms.length < D) (left : Bool) (hr : (endsOf ms (L 0) (L (2 ^ D))).2 = L (at_ + size)) :
    (endsOf (ms ++ [(L (at_ + size / 2), left)]) (L 0) (L (2 ^ D))).2 = L ((if left then at_ else at_ + size / 2) + size / 2) := by
  obtain ⟨h1, h2⟩ := h.half hl
  rw [endsOf_snoc]
  cases left with
  | true => simp
  | false =>
    simp only [Bool.false_eq_true, if_false]
    rw [hr]
    congr 1
    omega
/-- How many steps come ahead of the middle. -/
theorem Left2.middle {L : Nat → Int} {D : Nat} {last : Int} {ms : List (Int × Bool)} {at_ size : Nat} (h : Left2 L D last ms at_ size) : askedNum (ms.map (·.2)) * (size : Int) = (at_ : Int) := by
  rw [← h.num, numFrom_snd]
  unfold askedNum
  rw [List.map_map]
  rfl
end Dp
end Go.Proofs.YtdipojfngdceoabGreatDoor

/- The stamps of all states of a run. -/
namespace Go.Proofs.YtdipojfngdceoabGreatDoor
open Go.RowKit

namespace Dp
theorem own_one (w : World) (e : TypeId) (v : Value) : Own (w.alloc (.cells #[v] e)) e (.slice (some ⟨w.heap.size, 0, none⟩) 1 1) [v] :=
  .inr ⟨w.heap.size, [], rfl, by simpa using Row.allocNew w e [v], by simp [maxLen]⟩
theorem Goes.succ {m : Mach} {k : Nat} (h : Goes m k) (h0 : (Mach.after m k).step.2 = 0) : Goes m (k + 1) := by
  intro i hi
  by_cases e : i = k
  · subst e; exact h0
  · exact h i (by omega)
end Dp
theorem shlRun (n : Nat) (h : n ≤ 16) (wx : World) : (binOp .shl 3 (.int .i64 1) (.int .u64 (n : Int))).run Tryz.prog wx = .ok (.int .i64 ((2 ^ n : Nat) : Int)) wx := by
  rcases (by omega : n = 0 ∨ n = 1 ∨ n = 2 ∨ n = 3 ∨ n = 4 ∨ n = 5 ∨ n = 6 ∨ n = 7 ∨ n = 8 ∨ n = 9 ∨ n = 10 ∨ n = 11 ∨ n = 12 ∨ n = 13 ∨ n = 14 ∨ n = 15 ∨ n = 16) with rfl | rfl | rfl | rfl | rfl | rfl | rfl | rfl | rfl | rfl | rfl | rfl | rfl | rfl | rfl | rfl | rfl <;> rfl

set_option maxRecDepth 100000 in
set_option maxHeartbeats 1000000 in
theorem keepRuns (w : World) (v vt : Value) (raw : List Int) (texts : List (List UInt8)) (ahead : Int) (D : Nat) (hW : Dp.IntsW w v raw) (h64 : ∀ x ∈ raw, -9223372036854775808 ≤ x ∧ x ≤ 9223372036854775807) (hT : Dp.TextsW w vt texts) (ha : -9223372036854775808 ≤ ahead ∧ ahead ≤ 9223372036854775807) (hD : D ≤ 7) :
    Calls Tryz.prog 7 #[v, vt, .int .i64 ahead, .int .i64 D] w fun e w' => (∃ v', e = .returned v' ∧ ((Dp.Goes (Dp.openedMach raw texts ahead) (2 ^ D) ∧ Dp.Own w' 3 v' (Dp.regCells (Dp.stList (Dp.openedMach raw texts ahead) (2 ^ D + 1))) ∧ ∀ g, v'.ownBlock = some g → w.heap.size ≤ g) ∨ v' = .slice none 0 0)) ∧ Dp.Keeps (fun _ => False) w w' := by
  obtain ⟨P, hP⟩ : ∃ P : Nat, P = 2 ^ D := ⟨_, rfl⟩
  have hPb : P ≤ 128 := by rw [hP]; exact Nat.pow_le_pow_right (n := 2) (i := D) (j := 7) (by decide) hD
  have HSH : Hid (∀ wx, (binOp .shl 3 (.int .i64 1) (.int .u64 (D : Int))).run Tryz.prog wx = .ok (.int .i64 (P : Int)) wx) := by
    intro wx; rw [hP]; exact shlRun D (by omega) wx
  rw [← hP]
  clear hP
  have hD0 : (0 : Int) ≤ D := by omega
  have hD7 : (D : Int) ≤ 7 := by omega
  go_enter Tryz.func7, Tryz.ntmps7
  go_wp2_with fail
  refine (keepOpened w v vt raw texts ahead hW h64 hT ha).mono ?_
  rintro e w1 ⟨⟨b, vs, G, rfl, hb, hG, hM⟩, k1⟩
  generalize hmm : Dp.openedMach raw texts ahead = m at *
  have HMM := Hid.mk_ hmm
  clear hmm
  have HG : Hid (∀ q, G q → q < w1.heap.size) := fun q hq => (hM.own q hq).1
  have hbl : b < w1.heap.size := hM.row.lt
  have HM := Hid.mk_ hM
  have HK := Hid.mk_ k1
  have hs1 := k1.size
  clear hM k1 hG hW hT h64 ha
  go_wp2_with fail
  refine (progMStamp w1 b G vs m HM.out).mono ?_
  rintro e w2 ⟨rfl, k2⟩
  have kal := (Dp.Keeps.refl (fun _ => False) w2).alloc (.cells #[.int .i64 (Dp.stamp m.s (Dp.root m.cells))] 3)
  have k2a := k2.trans kal
  have HM2 := Hid.mk_ (HM.out.keep k2a (fun e => e) (fun _ _ e => e))
  have HK2 := Hid.mk_ (HK.out.trans k2a)
  have HO2 : Hid (Dp.Own (w2.alloc (.cells #[.int .i64 (Dp.stamp m.s (Dp.root m.cells))] 3)) 3 (.slice (some ⟨w2.heap.size, 0, none⟩) 1 1) (Dp.regCells (Dp.stList m (0 + 1)))) := Dp.own_one w2 3 _
  have hs2 := k2.size
  clear k2 kal k2a HM HK
  go_wp2
  go_loopw [10, 11] (fun vl i wr => ∃ k : Nat, k ≤ P ∧ i = .int .i64 k ∧ Hid (Dp.Own wr 3 vl (Dp.regCells (Dp.stList m (k + 1)))) ∧ Hid (∀ g, vl.ownBlock = some g → w1.heap.size ≤ g) ∧ Hid (Dp.ProgM wr b G vs (Dp.Mach.after m k)) ∧ Hid (Dp.Goes m k) ∧ Hid (Dp.Keeps (fun _ => False) w wr) ∧ w1.heap.size ≤ wr.heap.size) (fun _ i _ => P - (intOf i).toNat)
  case atStart => exact ⟨0, Nat.zero_le _, rfl, HO2, fun g hg => by simp [Value.ownBlock] at hg; omega, HM2, fun i hi => absurd hi (by omega), HK2, by simp; omega⟩
  case round =>
    obtain ⟨k, hk, rfl, HO, HF, HMr, HGo, HKr, hsz⟩ := hrel
    clear HO2 HM2 HK2
    by_cases hlt : k < P
    · have hlt' : (k : Int) < (P : Int) := by omega
      go_wp2_with (first | (refine Dp.wpList_binop rfl .shl 3 _ _ _ rfl (.int .i64 1) (.int .u64 (D : Int)) (.int .i64 P) rfl rfl rfl (HSH.out _) ?_; intro _))
      refine (progMStep _ b G vs _ HMr.out).mono ?_
      rintro e w3 ⟨rfl, k3, hM3⟩
      have HM3 := Hid.mk_ hM3
      have HO3 := Hid.mk_ (HO.out.keep k3 (fun g hg e => by have := HF.out g hg; omega))
      have HK3 : Hid (Dp.Keeps (fun _ => False) w w3) := HKr.out.next k3 (fun q hq e => by omega)
      have hs3 := k3.size
      clear k3 hM3 HMr HO HKr
      by_cases h0 : (Dp.Mach.after m k).step.2 = 0
      · rw [h0]
        have HGo2 := Hid.mk_ (HGo.out.succ h0)
        go_wp2_with fail
        refine (progMStamp w3 b G vs _ HM3.out).mono ?_
        rintro e w4 ⟨rfl, k4⟩
        have hS : Dp.stamp (Dp.Mach.after m k).step.1.s (Dp.root (Dp.Mach.after m k).step.1.cells) = Dp.stAt m (k + 1) := rfl
        rw [hS]
        clear hS
        have kal := (Dp.Keeps.refl (fun _ => False) w4).alloc (.cells #[.int .i64 (Dp.stAt m (k + 1))] 3)
        have k4a := k4.trans kal
        have HM4 : Hid (Dp.ProgM (w4.alloc (.cells #[.int .i64 (Dp.stAt m (k + 1))] 3)) b G vs (Dp.Mach.after m (k + 1))) := HM3.out.keep k4a (fun e => e) (fun _ _ e => e)
        have HO4 := Hid.mk_ (HO3.out.keep k4a (fun _ _ e => e))
        have HK4 := Hid.mk_ (HK3.out.trans k4a)
        have HSU : Hid (Dp.regCells (Dp.stList m (k + 1)) ++ [.int .i64 (Dp.stAt m (k + 1))] = Dp.regCells (Dp.stList m (k + 1 + 1))) := by
          unfold Hid
          rw [← Dp.stList_succ m (k + 1)]; simp [Dp.regCells]
        have HLN : Hid ((Dp.regCells (Dp.stList m (k + 1))).length = k + 1) := by unfold Hid; rw [Dp.regCells_len, Dp.stList_length]
        have hs4 := k4a.size
        have hs4' : w4.heap.size + 1 = (w4.alloc (.cells #[.int .i64 (Dp.stAt m (k + 1))] 3)).heap.size := by simp
        have NW : Hid (∀ j u, [Value.int .i64 (Dp.stAt m (k + 1))][j]? = some u → (w4.alloc (.cells #[.int .i64 (Dp.stAt m (k + 1))] 3)).cell? ((⟨w4.heap.size, 0, none⟩ : Addr).add j) = some u) := fun j u h => Dp.cell_one w4 _ _ j u h
        have hs4'' := k4.size
        clear k4 kal k4a HM3 HO3 HK3
        generalize Dp.stAt m (k + 1) = S at *
        go_wp2_with (at_builtin; refine Dp.wpList_append_Own rfl _ _ 22 rfl 3 (.int .i64 0) 8 Tryz.underlying22 infoInt rfl u10 (Dp.regCells (Dp.stList m (k + 1))) rfl HO4.out ⟨w4.heap.size, 0, none⟩ 1 1 [.int .i64 S] rfl rfl NW.out (fun x hx => by simp at hx; subst hx; rfl) (by omega) (by rw [HLN.out]; unfold maxLen; omega) (by rw [HLN.out]; omega) ?_)
        intro v6 w6 o6 k6 s6
        rw [HSU.out] at o6
        have HO6 := Hid.mk_ o6
        have HF6 : Hid (∀ g, v6.ownBlock = some g → w1.heap.size ≤ g) := by
          intro g hg
          rcases s6.out with hh | hh
          · exact HF.out g (by rw [← hh.1]; exact hg)
          · rw [hh.1] at hg
            simp at hg
            omega
        have HM6 := Hid.mk_ (HM4.out.keep k6 (fun e => by have := HF.out b e; omega) (fun q hq e => by have := HF.out q e; have := HG.out q hq; omega))
        have HK6 : Hid (Dp.Keeps (fun _ => False) w w6) := HK4.out.next k6 (fun q hq e => by have := HF.out q e; omega)
        have hs6 : w1.heap.size ≤ w6.heap.size := by have := k6.size; omega
        clear o6 k6 s6
        go_wp2
        go_roundw
        case rel => exact ⟨k + 1, by omega, by go_num, HO6, HF6, HM6, HGo2, HK6, hs6⟩
        case measure => simp [intOf]; omega
      · go_wp2
        go_ret
        exact ⟨⟨_, rfl, .inr rfl⟩, HK3.out⟩
    · obtain rfl : k = P := by omega
      go_wp2_with (first | (refine Dp.wpList_binop rfl .shl 3 _ _ _ rfl (.int .i64 1) (.int .u64 (D : Int)) (.int .i64 k) rfl rfl rfl (HSH.out _) ?_; intro _))
      go_ret
      rw [HMM.out]
      exact ⟨⟨_, rfl, .inl ⟨HGo.out, HO.out, fun g hg => by have := HF.out g hg; omega⟩⟩, HKr.out⟩
end Go.Proofs.YtdipojfngdceoabGreatDoor

/- append onto a list of wider elements that is the call's own. It holds of every program. -/
namespace Go.Proofs.YtdipojfngdceoabGreatDoor
namespace Dp
open Go.RowKit
theorem wpList_append_rows {P : Program} {w : World} {ops : Array Oper} {rest : List Oper} {o : Oper} {a : Act} {Q : Exit → Act → World → Prop} (hgd : o.guard = none) (s x : Operand) (t : TypeId)
    (ho : o.op = .call { callee := .builtin .append, args := #[s, x], argTypes := #[t, t] }) (base : Nat) (e : TypeId) (z : Value) (size bytes : Nat) (ht : P.underlying t = some (.slice e)) (hinfo : (P.info? e).map (fun i => (i.zero, i.size, i.bytes)) = some (some z, size, bytes)) (hz1 : z.cells.size = size) (hsz : 0 < size)
    (v : Value) (n : Nat) (xs : List Value) (hs : a.eval s = v) (hown : w.ownsRow base e size v n xs) (ad : Addr) (m c : Nat) (news : List Value) (hx : a.eval x = .slice (some ad) m c) (hl : news.length = m * size) (hnews : ∀ j u, news[j]? = some u → w.cell? (ad.add j) = some u) (h1 : ∀ u ∈ news, u.oneCell' = true)
    (h63 : n + m ≤ maxLen) (hbytes : (n + m) * bytes ≤ 140737488355328) (hbase : base ≤ w.heap.size)
    (h : ∀ v' w', w'.ownsRow base e size v' (n + m) (xs ++ news) → Keeps (fun k => v.ownBlock = some k) w w' → wpList P ops Q rest (a.put o.dst v') w') :
    wpList P ops Q (o :: rest) a w := by
  refine wpList_plain hgd fun K hK => ?_
  obtain ⟨i, hi, hz, hsize, hby⟩ := info_parts hinfo
  obtain ⟨v', w', hr, h2, h3, _⟩ := run_append_own (P := P) w base t o.type e i z size bytes ht hi hz hsize hby hz1 hsz v n xs hown ad m c news hl hnews h1 h63 hbytes hbase
  have h4 : Keeps (fun k => v.ownBlock = some k) w w' := (Keeps.refl _ _).grown h3 (fun k hk _ => hk)
  unfold Oper.wp execOp
  simp only [ho, resolve, invoke, builtin, Sem.run_bind, Sem.run_pure, Result.andThen_ok, List.map_toArray, List.map_cons, List.map_nil, hs, hx, hr]
  exact hK _ _ (h v' w' h2 h4)
theorem ownsRow_cell {w : World} {base : Nat} {e : TypeId} {size : Nat} {v : Value} {n : Nat} {xs : List Value} (h : w.ownsRow base e size v n xs) : ∃ b cap, (xs ≠ [] → v = .slice (some ⟨b, 0, none⟩) n cap) ∧ (xs = [] → 0 < size → ∃ ad, v = .slice ad 0 cap) ∧ ∀ j u, xs[j]? = some u → w.cell? ⟨b, j, none⟩ = some u := by
  obtain ⟨hl, ⟨hv, hn⟩ | ⟨g, cap, cur, hv, hb, hg, h1, h2, h3, h4⟩⟩ := h
  · have hx : xs = [] := List.length_eq_zero_iff.1 (by rw [hl, hn, Nat.zero_mul])
    subst hx
    exact ⟨0, 0, fun e => absurd rfl e, fun _ _ => ⟨none, hv⟩, fun j u hj => by simp at hj⟩
  · refine ⟨g, cap, fun _ => hv, fun hx hs => ?_, fun j u hj => ?_⟩
    · have : n = 0 := by
        rw [hx] at hl
        rcases Nat.eq_zero_or_pos n with h | h
        · exact h
        · have := Nat.mul_pos h hs
          simp at hl; omega
      rw [this] at hv
      exact ⟨_, hv⟩
    · rw [← h4] at hj
      have hlt : j < n * size := by
        have := (List.getElem?_eq_some_iff.1 hj).1
        rw [List.length_take] at this; omega
      rw [List.getElem?_take_of_lt hlt] at hj
      simp [World.cell?, hg]
      simpa using hj
end Dp
end Go.Proofs.YtdipojfngdceoabGreatDoor
