/- Steps on the way: KeepOpened, KeepRow, PureCopied, RowsTwo. -/
import Derived.Test.YtdipojfngdceoaaDoorPack56
import Derived.Test.YtdipojfngdceoaaDoorPack84
/- A machine of raw numbers and texts, some steps on. -/
namespace Go.Proofs.YtdipojfngdceoaaDoor
open Go.RowKit

namespace Dp
theorem own_ints {w : World} {e : TypeId} {v : Value} {xs : List Int} (h : Own w e v (regCells xs)) (hl : xs.length ≤ 1048576) : Ints w v xs := by
  rcases h with ⟨rfl, h2⟩ | ⟨g, tail, rfl, h2, h3⟩
  · have : xs = [] := by cases xs with
      | nil => rfl
      | cons a b => simp [regCells] at h2
    subst this
    exact ⟨0, 0, none, 0, rfl, by simp, fun e => absurd rfl e, fun j hj => absurd hj (by simp)⟩
  · have hx : (regCells xs).length = xs.length := by simp [regCells]
    rw [hx]
    exact ints_row h2 hl
theorem raw_ok (raw : List Int) (texts : List (List UInt8)) : newOk (wordsRaw raw) (srcsRaw texts) = true := by
  unfold newOk
  simp only [Bool.and_eq_true, decide_eq_true_eq, List.all_eq_true]
  refine ⟨⟨⟨by simp [wordsRaw]; omega, by simp [srcsRaw]; omega⟩, ?_⟩, ?_⟩
  · intro x hx
    simp only [wordsRaw, List.mem_map] at hx
    obtain ⟨y, _, rfl⟩ := hx
    exact pickOf_bd y 4294967296 (by omega)
  · intro l hl
    simp only [srcsRaw, List.mem_map] at hl
    obtain ⟨y, _, rfl⟩ := hl
    exact cut200_length y
def openedMach (raw : List Int) (texts : List (List UInt8)) (ahead : Int) : Mach := (Mach.run (pickOf ahead 300).toNat (newMach (wordsRaw raw) (srcsRaw texts))).1
end Dp

set_option maxRecDepth 100000 in
set_option maxHeartbeats 1000000 in
theorem keepOpened (w : World) (v vt : Value) (raw : List Int) (texts : List (List UInt8)) (ahead : Int) (hW : Dp.IntsW w v raw) (h64 : ∀ x ∈ raw, -9223372036854775808 ≤ x ∧ x ≤ 9223372036854775807) (hT : Dp.TextsW w vt texts) (ha : -9223372036854775808 ≤ ahead ∧ ahead ≤ 9223372036854775807) :
    Calls Tryd.prog 12 #[v, vt, .int .i64 ahead] w fun e w' => (∃ b vs G, e = .returned (.pointer (some ⟨b, 0, none⟩)) ∧ w.heap.size ≤ b ∧ (∀ q, G q → w.heap.size ≤ q) ∧ Dp.ProgM w' b G vs (Dp.openedMach raw texts ahead)) ∧ Dp.Keeps (fun _ => False) w w' := by
  have HT := Hid.mk_ hT
  have HMA : Hid (Dp.openedMach raw texts ahead = (Dp.Mach.run (Dp.pickOf ahead 300).toNat (Dp.newMach (Dp.wordsRaw raw) (Dp.srcsRaw texts))).1) := rfl
  have hpb := Dp.pickOf_bd ahead 300 (by omega)
  clear hT
  go_enter Tryd.func12, Tryd.ntmps12
  go_wp2_with fail
  refine (keepWords w v raw hW h64).mono ?_
  rintro e w1 ⟨v1, rfl, ho1, hf1, k1⟩
  have HI := Hid.mk_ (Dp.own_ints ho1 (by simp [Dp.wordsRaw]; omega))
  clear ho1 hf1
  go_wp2_with fail
  refine (keepSources w1 vt texts (HT.out.still k1)).mono ?_
  rintro e w2 ⟨v2, rfl, hp2, k2⟩
  have HP := Hid.mk_ hp2
  have HK2 := Hid.mk_ (k1.trans k2)
  have HI2 := Hid.mk_ (HI.out.still k2)
  clear k1 k2 hp2 HI
  go_wp2_with fail
  refine (progNew w2 v1 v2 _ _ HI2.out HP.out (Dp.raw_ok raw texts)).mono ?_
  rintro e w3 ⟨⟨b, vs, G, rfl, hb, hG, hM⟩, k3⟩
  have HM := Hid.mk_ hM
  have hs2 := HK2.out.size
  have hb' : w.heap.size ≤ b := by omega
  have HG : Hid (∀ q, G q → w.heap.size ≤ q) := fun q hq => by have := hG q hq; omega
  have HK3 := Hid.mk_ (HK2.out.trans k3)
  clear hM hG hb k3 HK2 HI2 HP hs2
  go_wp2_with fail
  refine (keepPick ahead 300 _ ha (by omega) (by omega)).mono ?_
  rintro e w4 ⟨rfl, rfl⟩
  obtain ⟨n, hn⟩ : ∃ n : Nat, Dp.pickOf ahead 300 = (n : Int) := ⟨(Dp.pickOf ahead 300).toNat, by omega⟩
  rw [hn] at HMA hpb ⊢
  rw [Int.toNat_natCast] at HMA
  go_wp2_with fail
  refine (progMRun w4 b G vs _ HM.out n (by omega)).mono ?_
  rintro e w5 ⟨rfl, k5, hM5⟩
  have HM5 : Hid (Dp.ProgM w5 b G vs (Dp.openedMach raw texts ahead)) := by rw [HMA.out]; exact hM5
  have HK5 : Hid (Dp.Keeps (fun _ => False) w w5) := HK3.out.next k5 (fun q hq e => by omega)
  clear hM5 k5 HK3 HM
  generalize (Dp.Mach.run n (Dp.newMach (Dp.wordsRaw raw) (Dp.srcsRaw texts))).2.1 = A1 at *
  generalize (Dp.Mach.run n (Dp.newMach (Dp.wordsRaw raw) (Dp.srcsRaw texts))).2.2 = A2 at *
  go_wp2
  go_ret
  exact ⟨⟨b, vs, G, rfl, hb', HG.out, HM5.out⟩, HK5.out⟩
end Go.Proofs.YtdipojfngdceoaaDoor

/- A row of numbers, written into. -/
namespace Go.Proofs.YtdipojfngdceoaaDoor
open Go.RowKit
namespace Dp
theorem regCells_len (l : List Int) : (regCells l).length = l.length := by simp [regCells]
theorem ints_set {w : World} {g : Nat} {e : TypeId} {L : List Int} (h : Row w g e (regCells L)) (i : Nat) (x : Int) : Row (w.setCell ⟨g, i, none⟩ (.int .i64 x)) g e (regCells (L.set i x)) := by
  have := h.set i (.int .i64 x)
  rwa [show (regCells L).set i (.int .i64 x) = regCells (L.set i x) by simp [regCells, List.map_set]] at this
theorem regCells_one (l : List Int) : ∀ v ∈ regCells l, v.oneCell' = true := by
  intro v hv
  simp only [regCells, List.mem_map] at hv
  obtain ⟨x, _, rfl⟩ := hv
  rfl
end Dp
end Go.Proofs.YtdipojfngdceoaaDoor

/- The program that copies a source, word by word, into its cells. -/
namespace Go.Proofs.YtdipojfngdceoaaDoor
namespace Dp
/-- The program, a name and a number of words. -/
def copyProg (name n : Int) : List Int :=
  [opw 13 1 0 + 10, opw 13 2 0 + 11, opw 15 3 2 + 5, opw 19 5 1 + 524288, opw 14 5 3 + 100, opw 11 3 3 + 1, opw 11 4 4 + 4, opw 18 6 0 + 2, opw 0 3 0, 0, name, n]
def wordsOf (l : List UInt8) (n : Nat) : List Int := (List.range n).map fun (i : Nat) => told l ((4 * i : Nat) : Int)
def wholeOf (l : List UInt8) (n : Nat) : List Int := copyProg (sum l) n ++ List.replicate 88 0 ++ wordsOf l n
theorem wordsOf_length (l : List UInt8) (n : Nat) : (wordsOf l n).length = n := by simp [wordsOf]
theorem wholeOf_length (l : List UInt8) (n : Nat) : (wholeOf l n).length = 100 + n := by simp [wholeOf, wordsOf, copyProg]; omega
theorem wholeOf_at (l : List UInt8) (n k : Nat) (h : 100 + k < (wholeOf l n).length) : (wholeOf l n)[100 + k] = told l ((4 * k : Nat) : Int) := by
  simp only [wholeOf]
  rw [List.getElem_append_right (by simp [copyProg])]
  simp [wordsOf, copyProg]
theorem firstWords_100 (l : List UInt8) (n : Nat) : firstWords (wholeOf l n) 100 = (newMach (copyProg (sum l) n) [l]).cells := by
  have h : (wholeOf l n).take 100 = copyProg (sum l) n ++ List.replicate 88 0 := by
    unfold wholeOf
    rw [List.take_append_of_le_length (by simp [copyProg])]
    exact List.take_of_length_le (by simp [copyProg])
  unfold firstWords newMach
  rw [h, List.append_assoc, List.replicate_append_replicate]
  rfl
theorem prog_at (l : List UInt8) (n k j : Nat) (hj : j < 12) : (firstWords (wholeOf l n) (100 + k)).getD j 0 = (copyProg (sum l) n).getD j 0 := by
  unfold firstWords
  have h1 : (copyProg (sum l) (n : Int)).length = 12 := rfl
  rw [List.getD_eq_getElem?_getD, List.getD_eq_getElem?_getD, List.getElem?_append_left (by rw [List.length_take, wholeOf_length]; omega), List.getElem?_take_of_lt (by omega)]
  unfold wholeOf
  rw [List.append_assoc, List.getElem?_append_left (by omega)]
/-- Ahead of the word k. -/
def copyAt (l : List UInt8) (n k : Nat) (st co r5 r6 : Int) : Mach := ⟨⟨2, st, co, false, [0, sum l, n, k, ((4 * k : Nat) : Int), r5, r6, 0]⟩, firstWords (wholeOf l n) (100 + k), [l]⟩
theorem findSrc_own (l : List UInt8) : findSrc [l] (sum l) = some l := by simp [findSrc]

theorem copy_head (l : List UInt8) (n : Nat) : ∃ st co, Reaches 2 (newMach (copyProg (sum l) n) [l]) (copyAt l n 0 st co 0 0) := by
  have hb := sum_bd l
  have e0 : newMach (copyProg (sum l) n) [l] = ⟨zeroCs, firstWords (wholeOf l n) (100 + 0), [l]⟩ := by
    show _ = (⟨zeroCs, firstWords (wholeOf l n) 100, [l]⟩ : Mach)
    rw [firstWords_100]; rfl
  rw [e0]
  refine ⟨_, _, Reaches.trans (Reaches.one rfl (step_load _ _ 0 _ ⟨13, 1, 0, 0, 10⟩ _ rfl rfl (by omega) (prog_at l n 0 0 (by omega)) (by rfl) rfl 10 (by decide) (by omega) (sum l) (prog_at l n 0 10 (by omega)))) (Reaches.one rfl (step_load _ _ 1 _ ⟨13, 2, 0, 0, 11⟩ _ rfl rfl (by omega) (prog_at l n 0 1 (by omega)) (by rfl) rfl 11 (by rfl) (by omega) n (prog_at l n 0 11 (by omega))))⟩

theorem copy_round (l : List UInt8) (n k : Nat) (hn : n ≤ 50) (hk : k < n) (st co r5 r6 : Int) : ∃ st' co' r5' r6', Reaches 6 (copyAt l n k st co r5 r6) (copyAt l n (k + 1) st' co' r5' r6') := by
  have hb := sum_bd l
  have s1 : Mach.step (copyAt l n k st co r5 r6) = (⟨⟨3, wrap (st + 1), co, false, [0, sum l, n, k, ((4 * k : Nat) : Int), r5, r6, 0]⟩, firstWords (wholeOf l n) (100 + k), [l]⟩, 0) :=
    step_plain _ _ 2 _ ⟨15, 3, 2, 0, 5⟩ _ _ rfl rfl (by omega) (prog_at l n k 2 (by omega)) (by rfl) (by decide) (by decide) (by
      have : (k : Int) ≠ n := by omega
      simp [plain, isPlain, nextOf, aluOf, Cs.reg, one, this, wrap])
  have s2 := step_ask (firstWords (wholeOf l n) (100 + k)) [l] 3 _ ⟨19, 5, 1, 4, 0⟩ ⟨3, wrap (st + 1), co, false, [0, sum l, n, k, ((4 * k : Nat) : Int), r5, r6, 0]⟩ rfl rfl (by omega) (prog_at l n k 3 (by omega)) (by rfl) rfl l (findSrc_own l)
  have s3 := step_store (firstWords (wholeOf l n) (100 + k)) [l] 4 _ ⟨14, 5, 3, 0, 100⟩ ⟨4, wrap (wrap (st + 1) + 1), co, false, [0, sum l, n, k, ((4 * k : Nat) : Int), told l ((4 * k : Nat) : Int), r6, 0]⟩ rfl rfl (by omega) (prog_at l n k 4 (by omega)) (by rfl) rfl (100 + k) (by
      show wrap ((k : Int) + 100) = _
      unfold wrap; omega) (by omega)
  have hset : (firstWords (wholeOf l n) (100 + k)).set (100 + k) (told l ((4 * k : Nat) : Int)) = firstWords (wholeOf l n) (100 + (k + 1)) := by
    rw [← wholeOf_at l n k (by rw [wholeOf_length]; omega)]
    exact firstWords_step _ _ _ (by rw [wholeOf_length]; omega)
  have e3 : Cs.reg ⟨4, wrap (wrap (st + 1) + 1), co, false, [0, sum l, n, k, ((4 * k : Nat) : Int), told l ((4 * k : Nat) : Int), r6, 0]⟩ (5 : Int) = told l ((4 * k : Nat) : Int) := rfl
  rw [show (⟨14, 5, 3, 0, 100⟩ : Ins).a = 5 from rfl, e3, hset] at s3
  have s4 := step_plain (firstWords (wholeOf l n) (100 + (k + 1))) [l] 5 _ ⟨11, 3, 3, 0, 1⟩ ⟨5, wrap (wrap (wrap (st + 1) + 1) + 1), co, false, [0, sum l, n, k, ((4 * k : Nat) : Int), told l ((4 * k : Nat) : Int), r6, 0]⟩ ⟨6, wrap (wrap (wrap (wrap (st + 1) + 1) + 1) + 1), co, false, [0, sum l, n, ((k + 1 : Nat) : Int), ((4 * k : Nat) : Int), told l ((4 * k : Nat) : Int), r6, 0]⟩ rfl rfl (by omega) (prog_at l n (k + 1) 5 (by omega)) (by rfl) (by decide) (by decide) (by
      have : wrap ((k : Int) + 1) = ((k + 1 : Nat) : Int) := by unfold wrap; omega
      generalize wrap (wrap (wrap (st + 1) + 1) + 1) = S
      simp only [plain, isPlain, nextOf, aluOf, Cs.reg]
      simp [this]
      decide)
  have s5 := step_plain (firstWords (wholeOf l n) (100 + (k + 1))) [l] 6 _ ⟨11, 4, 4, 0, 4⟩ ⟨6, wrap (wrap (wrap (wrap (st + 1) + 1) + 1) + 1), co, false, [0, sum l, n, ((k + 1 : Nat) : Int), ((4 * k : Nat) : Int), told l ((4 * k : Nat) : Int), r6, 0]⟩ ⟨7, wrap (wrap (wrap (wrap (wrap (st + 1) + 1) + 1) + 1) + 1), co, false, [0, sum l, n, ((k + 1 : Nat) : Int), ((4 * (k + 1) : Nat) : Int), told l ((4 * k : Nat) : Int), r6, 0]⟩ rfl rfl (by omega) (prog_at l n (k + 1) 6 (by omega)) (by rfl) (by decide) (by decide) (by
      have : wrap (((4 * k : Nat) : Int) + 4) = ((4 * (k + 1) : Nat) : Int) := by unfold wrap; omega
      generalize wrap (wrap (wrap (wrap (st + 1) + 1) + 1) + 1) = S
      generalize ((4 * k : Nat) : Int) = K at *
      generalize ((4 * (k + 1) : Nat) : Int) = K' at *
      simp only [plain, isPlain, nextOf, aluOf, Cs.reg]
      simp [this]
      decide)
  have s6 := step_plain (firstWords (wholeOf l n) (100 + (k + 1))) [l] 7 _ ⟨18, 6, 0, 0, 2⟩ ⟨7, wrap (wrap (wrap (wrap (wrap (st + 1) + 1) + 1) + 1) + 1), co, false, [0, sum l, n, ((k + 1 : Nat) : Int), ((4 * (k + 1) : Nat) : Int), told l ((4 * k : Nat) : Int), r6, 0]⟩ ⟨2, wrap (wrap (wrap (wrap (wrap (wrap (st + 1) + 1) + 1) + 1) + 1) + 1), co, false, [0, sum l, n, ((k + 1 : Nat) : Int), ((4 * (k + 1) : Nat) : Int), told l ((4 * k : Nat) : Int), 8, 0]⟩ rfl rfl (by omega) (prog_at l n (k + 1) 7 (by omega)) (by rfl) (by decide) (by decide) (by
      generalize wrap (wrap (wrap (wrap (wrap (st + 1) + 1) + 1) + 1) + 1) = S
      simp only [plain, isPlain, nextOf, aluOf, Cs.reg]
      simp
      decide)
  exact ⟨_, _, _, _, (Reaches.one rfl s1).trans ((Reaches.one rfl s2).trans ((Reaches.one rfl s3).trans ((Reaches.one rfl s4).trans ((Reaches.one rfl s5).trans (Reaches.one rfl s6)))))⟩
theorem copy_rounds (l : List UInt8) (n : Nat) (hn : n ≤ 50) : ∀ k, k ≤ n → ∃ st co r5 r6, Reaches (2 + 6 * k) (newMach (copyProg (sum l) n) [l]) (copyAt l n k st co r5 r6)
  | 0, _ => by obtain ⟨st, co, h⟩ := copy_head l n; exact ⟨st, co, 0, 0, h⟩
  | k + 1, hk => by
    obtain ⟨st, co, r5, r6, h⟩ := copy_rounds l n hn k (by omega)
    obtain ⟨st', co', r5', r6', h'⟩ := copy_round l n k hn (by omega) st co r5 r6
    exact ⟨st', co', r5', r6', h.trans h'⟩
theorem copied (l : List UInt8) (n : Nat) (hn : n ≤ 50) : ∃ m, Mach.run 2000 (newMach (copyProg (sum l) n) [l]) = (m, 3 + 6 * n + 1, 0) ∧ m.s.over = true ∧ m.s.code = n ∧ m.cells = (newMach (wholeOf l n) []).cells := by
  obtain ⟨st, co, r5, r6, h⟩ := copy_rounds l n hn n (Nat.le_refl _)
  have s1 : Mach.step (copyAt l n n st co r5 r6) = (⟨⟨8, wrap (st + 1), co, false, [0, sum l, n, n, ((4 * n : Nat) : Int), r5, r6, 0]⟩, firstWords (wholeOf l n) (100 + n), [l]⟩, 0) :=
    step_plain _ _ 2 _ ⟨15, 3, 2, 0, 5⟩ _ _ rfl rfl (by omega) (prog_at l n n 2 (by omega)) (by rfl) (by decide) (by decide) (by
      simp [plain, isPlain, nextOf, aluOf, Cs.reg, one, wrap])
  have s2 := step_plain (firstWords (wholeOf l n) (100 + n)) [l] 8 _ ⟨0, 3, 0, 0, 0⟩ ⟨8, wrap (st + 1), co, false, [0, sum l, n, n, ((4 * n : Nat) : Int), r5, r6, 0]⟩ ⟨8, wrap (wrap (st + 1) + 1), n, true, [0, sum l, n, n, ((4 * n : Nat) : Int), r5, r6, 0]⟩ rfl rfl (by omega) (prog_at l n n 8 (by omega)) (by rfl) (by decide) (by decide) (by
      simp [plain, isPlain, nextOf, aluOf, Cs.reg])
  have hr := h.trans ((Reaches.one rfl s1).trans (Reaches.one rfl s2))
  refine ⟨⟨⟨8, wrap (wrap (st + 1) + 1), n, true, [0, sum l, n, n, ((4 * n : Nat) : Int), r5, r6, 0]⟩, firstWords (wholeOf l n) (100 + n), [l]⟩, ?_, rfl, rfl, ?_⟩
  · rw [hr.run rfl (by omega)]
    congr 2
    omega
  · show firstWords (wholeOf l n) (100 + n) = _
    rw [← wholeOf_length l n]
    simp only [firstWords, newMach, List.take_length]
end Dp
end Go.Proofs.YtdipojfngdceoaaDoor

/- Lists of pairs: made, and copied onto the head of a row. It holds of every program. -/
namespace Go.Proofs.YtdipojfngdceoaaDoor
namespace Dp
open Go.RowKit

def pairs (a b : Value) (n : Nat) : List Value := (madeCells #[a, b] (n * 2)).toList
theorem pairs_length (a b : Value) (n : Nat) : (pairs a b n).length = n * 2 := by
  unfold pairs; rw [Array.length_toList, size_madeCells]
theorem pairs_last (a b : Value) (n : Nat) : (pairs a b (n + 1)).drop (n * 2) = [a, b] := by
  apply List.ext_getElem
  · rw [List.length_drop, pairs_length]; simp; omega
  · intro i h1 h2
    rw [List.getElem_drop]
    simp at h2
    rcases (by omega : i = 0 ∨ i = 1) with rfl | rfl
    · simp [pairs, madeCells]
    · have : (n * 2 + 1) % 2 = 1 := by omega
      simp [pairs, madeCells, this]

theorem wpList_make_pairs {P : Program} (w : World) {ops : Array Oper} {rest : List Oper} {o : Oper} {a : Act} {Q : Exit → Act → World → Prop}
    (hg : o.guard = none) (l c : Operand) (t : TypeId) (hop : o.op = Op.makeSlice t l c)
    (e : TypeId) (x y : Value) (bytes : Nat) (h1 : P.underlying t = some (.slice e)) (h2 : (P.info? e).map (fun i => (i.zero, i.size, i.bytes)) = some (some (.agg #[x, y]), 2, bytes))
    (kl kc : IntKind) (L C : Int) (n : Nat) (hl : a.eval l = .int kl L) (hc : a.eval c = .int kc C) (hL : L = (n : Int)) (hC : C = (n : Int)) (b2 : bytes * n ≤ 281474976710656) (b3 : n ≤ maxLen)
    (hK : ∀ w', Row w' w.heap.size e (pairs x y n) → w'.heap.size = w.heap.size + 1 → Keeps (fun _ => False) w w' → wpList P ops Q rest (a.put o.dst (.slice (some ⟨w.heap.size, 0, none⟩) n n)) w') :
    wpList P ops Q (o :: rest) a w := by
  refine wpList_plain hg fun K hK' => ?_
  obtain ⟨i, hi, hz0, hz1, hz2⟩ := info_parts h2
  subst hL
  subst hC
  unfold maxLen at b3
  have hrun := run_make (P := P) w t e i _ h1 hi hz0 kl kc (n : Int) (n : Int) (by omega) (Int.le_refl _) (by rw [hz2, ← Int.natCast_mul]; omega) (by omega)
  rw [hz1, Int.toNat_natCast] at hrun
  unfold Oper.wp
  simp only [execOp, hop, hl, hc, hrun, Result.andThen, Sem.run_bind]
  have hr := Row.allocNew w e (pairs x y n)
  unfold pairs at hr
  rw [Array.toArray_toList] at hr
  exact hK' _ _ (hK _ (by unfold pairs; exact hr) (by simp) ((Keeps.refl _ _).alloc _))

theorem run_copy_wide {P : Program} (w : World) (dT sT ty elem : TypeId) (g dLen dCap : Nat) (sp : Option Addr) (sLen sCap k : Nat) (cur : List Value) (t : TypeId) (cs : List Value)
    (hu : P.underlying dT = some (.slice elem)) (hs : (P.info? elem).map (·.size) = some k)
    (hg : Row w g t cur) (hn : cs.length = sLen * k) (hle : sLen ≤ dLen)
    (hsrc : 0 < cs.length → ∃ a, sp = some a ∧ ∀ j v, cs[j]? = some v → w.cell? (a.add j) = some v) (hfit : cs.length ≤ cur.length) (h1 : ∀ v ∈ cs, v.oneCell' = true) :
    (Builtin.copy_ #[dT, sT] ty #[.slice (some ⟨g, 0, none⟩) dLen dCap, .slice sp sLen sCap]).run P w =
      .ok (goInt sLen) (w.setRow g (cs ++ cur.drop cs.length).toArray) := by
  have hmin : Nat.min sLen dLen = sLen := Nat.min_eq_left hle
  have hst := run_storeCells_at P g 0 t cs 0 cur.toArray w hg (by simpa using hfit) h1
  simp only [Nat.add_zero, List.take_zero, List.nil_append, Nat.zero_add] at hst
  cases hq : P.info? elem with
  | none => simp [hq] at hs
  | some i =>
    have hi : i.size = k := by simpa [hq] using hs
    cases sp with
    | none =>
      have h0 : cs.length = 0 := by
        rcases Nat.eq_zero_or_pos cs.length with h | h
        · exact h
        · obtain ⟨a, e, _⟩ := hsrc h; cases e
      obtain rfl : cs = [] := List.eq_nil_of_length_eq_zero h0
      simp [Builtin.copy_, run_underlying hu, Builtin.lenOf, Builtin.firstCells, sizeOf, typeInfo, hq, hmin, storeCells]
      simpa [storeCells] using hst
    | some a =>
      have hl : (loadCells a (sLen * k)).run P w = .ok cs.toArray w := by
        rw [← hn]
        refine run_loadCells_list (P := P) w a cs fun j v hj => ?_
        have hpos : 0 < cs.length := by have := (List.getElem?_eq_some_iff.1 hj).1; omega
        obtain ⟨a', e, hh⟩ := hsrc hpos
        cases e
        exact hh j v hj
      simp [Builtin.copy_, run_underlying hu, Builtin.lenOf, Builtin.firstCells, sizeOf, typeInfo, hq, hi, hmin, hl, hst]

theorem wpList_copy_wide {P : Program} {w : World} {ops : Array Oper} {rest : List Oper} {o : Oper} {a : Act} {Q : Exit → Act → World → Prop} (hgd : o.guard = none) (d s : Operand) (dT sT : TypeId)
    (ho : o.op = .call { callee := .builtin .copy, args := #[d, s], argTypes := #[dT, sT] }) (elem : TypeId) (k : Nat) (hu : P.underlying dT = some (.slice elem)) (hsz : (P.info? elem).map (·.size) = some k)
    (g dLen dCap : Nat) (sp : Option Addr) (sLen sCap : Nat) (hd : a.eval d = .slice (some ⟨g, 0, none⟩) dLen dCap) (hs : a.eval s = .slice sp sLen sCap)
    (t : TypeId) (cs cur : List Value) (hg : Row w g t cur) (hn : cs.length = sLen * k) (hle : sLen ≤ dLen) (hfit : cs.length ≤ cur.length) (h1 : ∀ v ∈ cs, v.oneCell' = true)
    (hsrc : 0 < cs.length → ∃ ad, sp = some ad ∧ ∀ j v, cs[j]? = some v → w.cell? (ad.add j) = some v)
    (hK : ∀ w', Row w' g t (cs ++ cur.drop cs.length) → w'.heap.size = w.heap.size → Keeps (fun k => k = g) w w' → wpList P ops Q rest (a.put o.dst (goInt sLen)) w') : wpList P ops Q (o :: rest) a w := by
  refine wpList_plain hgd fun K hK' => ?_
  have hrun := run_copy_wide (P := P) w dT sT o.type elem g dLen dCap sp sLen sCap k cur t cs hu hsz hg hn hle hsrc hfit h1
  unfold Oper.wp
  simp [execOp, ho, resolve, invoke, builtin, hd, hs, hrun, Result.andThen]
  exact hK' _ _ (hK _ (hg.setRow _) (by simp) ((Keeps.refl (fun k => k = g) w).setRow (.inr rfl) _))
end Dp
end Go.Proofs.YtdipojfngdceoaaDoor
