/- Steps on the way: KeepOpened, KeepRow, PureEuclid, KeepEuclid, OpenBase, ErrLaid. -/
import Derived.Test.YtdipojfngdceoaaDoorPack56
import Derived.Test.YtdipojfngdceoaaDoorPack70
import Derived.Test.YtdipojfngdceoaaDoorPack84
import Derived.Test.YtdipojfngdceoaaDoorRows
import Derived.ProofKit
import Derived.OpenShut
import Derived.Lib.SmallJoins
import Derived.LaidLaws
import Derived.LaidSub
/- A machine of raw numbers and texts, some steps on. -/
namespace Go.Proofs.YtdipojfngdceoaaDoor
open Go.RowKit

namespace Dp
theorem own_ints {w : World} {e : TypeId} {v : Value} {xs : List Int} (h : Own w e v (regCells xs)) (hl : xs.length ≤ 1048576) : Ints w v xs := by
  rcases h with ⟨rfl, h2⟩ | ⟨g, tail, rfl, h2, h3⟩
  · have : xs = [] := by cases xs with
      | nil => rfl
      | cons a b => simp [regCells] at h2
    subst this
    exact ⟨0, 0, none, 0, rfl, by simp, fun e => absurd rfl e, fun j hj => absurd hj (by simp)⟩
  · have hx : (regCells xs).length = xs.length := by simp [regCells]
    rw [hx]
    exact ints_row h2 hl
theorem raw_ok (raw : List Int) (texts : List (List UInt8)) : newOk (wordsRaw raw) (srcsRaw texts) = true := by
  unfold newOk
  simp only [Bool.and_eq_true, decide_eq_true_eq, List.all_eq_true]
  refine ⟨⟨⟨by simp [wordsRaw]; omega, by simp [srcsRaw]; omega⟩, ?_⟩, ?_⟩
  · intro x hx
    simp only [wordsRaw, List.mem_map] at hx
    obtain ⟨y, _, rfl⟩ := hx
    exact pickOf_bd y 4294967296 (by omega)
  · intro l hl
    simp only [srcsRaw, List.mem_map] at hl
    obtain ⟨y, _, rfl⟩ := hl
    exact cut200_length y
def openedMach (raw : List Int) (texts : List (List UInt8)) (ahead : Int) : Mach := (Mach.run (pickOf ahead 300).toNat (newMach (wordsRaw raw) (srcsRaw texts))).1
end Dp

set_option maxRecDepth 100000 in
set_option maxHeartbeats 1000000 in
theorem keepOpened (w : World) (v vt : Value) (raw : List Int) (texts : List (List UInt8)) (ahead : Int) (hW : Dp.IntsW w v raw) (h64 : ∀ x ∈ raw, -9223372036854775808 ≤ x ∧ x ≤ 9223372036854775807) (hT : Dp.TextsW w vt texts) (ha : -9223372036854775808 ≤ ahead ∧ ahead ≤ 9223372036854775807) :
    Calls Tryd.prog 12 #[v, vt, .int .i64 ahead] w fun e w' => (∃ b vs G, e = .returned (.pointer (some ⟨b, 0, none⟩)) ∧ w.heap.size ≤ b ∧ (∀ q, G q → w.heap.size ≤ q) ∧ Dp.ProgM w' b G vs (Dp.openedMach raw texts ahead)) ∧ Dp.Keeps (fun _ => False) w w' := by
  have HT := Hid.mk_ hT
  have HMA : Hid (Dp.openedMach raw texts ahead = (Dp.Mach.run (Dp.pickOf ahead 300).toNat (Dp.newMach (Dp.wordsRaw raw) (Dp.srcsRaw texts))).1) := rfl
  have hpb := Dp.pickOf_bd ahead 300 (by omega)
  clear hT
  go_enter Tryd.func12, Tryd.ntmps12
  go_wp2_with fail
  refine (keepWords w v raw hW h64).mono ?_
  rintro e w1 ⟨v1, rfl, ho1, hf1, k1⟩
  have HI := Hid.mk_ (Dp.own_ints ho1 (by simp [Dp.wordsRaw]; omega))
  clear ho1 hf1
  go_wp2_with fail
  refine (keepSources w1 vt texts (HT.out.still k1)).mono ?_
  rintro e w2 ⟨v2, rfl, hp2, k2⟩
  have HP := Hid.mk_ hp2
  have HK2 := Hid.mk_ (k1.trans k2)
  have HI2 := Hid.mk_ (HI.out.still k2)
  clear k1 k2 hp2 HI
  go_wp2_with fail
  refine (progNew w2 v1 v2 _ _ HI2.out HP.out (Dp.raw_ok raw texts)).mono ?_
  rintro e w3 ⟨⟨b, vs, G, rfl, hb, hG, hM⟩, k3⟩
  have HM := Hid.mk_ hM
  have hs2 := HK2.out.size
  have hb' : w.heap.size ≤ b := by omega
  have HG : Hid (∀ q, G q → w.heap.size ≤ q) := fun q hq => by have := hG q hq; omega
  have HK3 := Hid.mk_ (HK2.out.trans k3)
  clear hM hG hb k3 HK2 HI2 HP hs2
  go_wp2_with fail
  refine (keepPick ahead 300 _ ha (by omega) (by omega)).mono ?_
  rintro e w4 ⟨rfl, rfl⟩
  obtain ⟨n, hn⟩ : ∃ n : Nat, Dp.pickOf ahead 300 = (n : Int) := ⟨(Dp.pickOf ahead 300).toNat, by omega⟩
  rw [hn] at HMA hpb ⊢
  rw [Int.toNat_natCast] at HMA
  go_wp2_with fail
  refine (progMRun w4 b G vs _ HM.out n (by omega)).mono ?_
  rintro e w5 ⟨rfl, k5, hM5⟩
  have HM5 : Hid (Dp.ProgM w5 b G vs (Dp.openedMach raw texts ahead)) := by rw [HMA.out]; exact hM5
  have HK5 : Hid (Dp.Keeps (fun _ => False) w w5) := HK3.out.next k5 (fun q hq e => by omega)
  clear hM5 k5 HK3 HM
  generalize (Dp.Mach.run n (Dp.newMach (Dp.wordsRaw raw) (Dp.srcsRaw texts))).2.1 = A1 at *
  generalize (Dp.Mach.run n (Dp.newMach (Dp.wordsRaw raw) (Dp.srcsRaw texts))).2.2 = A2 at *
  go_wp2
  go_ret
  exact ⟨⟨b, vs, G, rfl, hb', HG.out, HM5.out⟩, HK5.out⟩
end Go.Proofs.YtdipojfngdceoaaDoor

/- A row of numbers, written into. -/
namespace Go.Proofs.YtdipojfngdceoaaDoor
open Go.RowKit
namespace Dp
theorem regCells_len (l : List Int) : (regCells l).length = l.length := by simp [regCells]
theorem ints_set {w : World} {g : Nat} {e : TypeId} {L : List Int} (h : Row w g e (regCells L)) (i : Nat) (x : Int) : Row (w.setCell ⟨g, i, none⟩ (.int .i64 x)) g e (regCells (L.set i x)) := by
  have := h.set i (.int .i64 x)
  rwa [show (regCells L).set i (.int .i64 x) = regCells (L.set i x) by simp [regCells, List.map_set]] at this
theorem regCells_one (l : List Int) : ∀ v ∈ regCells l, v.oneCell' = true := by
  intro v hv
  simp only [regCells, List.mem_map] at hv
  obtain ⟨x, _, rfl⟩ := hv
  rfl
end Dp
end Go.Proofs.YtdipojfngdceoaaDoor

/- The program that finds the greatest common divisor of two words. -/
namespace Go.Proofs.YtdipojfngdceoaaDoor
namespace Dp
def gcdHead : List Int := [opw 13 1 0 + 100, opw 13 2 0 + 101, opw 15 2 0 + 5, opw 10 3 1 + 262144, opw 3 3 3 + 262144, opw 2 3 1 + 393216, opw 11 1 2, opw 18 4 0 + 9, opw 0 1 0, opw 11 2 3, opw 18 4 0 + 2]
def gcdProg (x y : Int) : List Int := gcdHead ++ (List.replicate 89 0 ++ [x, y])
def gcdCells (x y : Int) : List Int := gcdHead ++ (List.replicate 89 0 ++ (x :: y :: List.replicate 154 0))
theorem gcdCells_new (x y : Int) : (newMach (gcdProg x y) []).cells = gcdCells x y := by
  show (gcdHead ++ (List.replicate 89 0 ++ [x, y])) ++ List.replicate 154 0 = _
  simp [gcdCells]
theorem gcd_at (x y : Int) (j : Nat) (hj : j < 11) : (gcdCells x y).getD j 0 = gcdHead.getD j 0 := by
  have h1 : gcdHead.length = 11 := rfl
  unfold gcdCells
  rw [List.getD_eq_getElem?_getD, List.getD_eq_getElem?_getD, List.getElem?_append_left (by omega)]
theorem gcd_x (x y : Int) : (gcdCells x y).getD 100 0 = x := rfl
theorem gcd_y (x y : Int) : (gcdCells x y).getD 101 0 = y := rfl
def gcdAt (x y : Int) (a b : Nat) (st co r3 r4 : Int) : Mach := ⟨⟨2, st, co, false, [0, a, b, r3, r4, 0, 0, 0]⟩, gcdCells x y, []⟩
theorem gcd_head (x y : Nat) : ∃ st co, Reaches 2 (newMach (gcdProg x y) []) (gcdAt x y x y st co 0 0) := by
  have e0 : newMach (gcdProg x y) [] = ⟨zeroCs, gcdCells x y, []⟩ := by rw [← gcdCells_new]; rfl
  rw [e0]
  exact ⟨_, _, Reaches.trans (Reaches.one rfl (step_load _ _ 0 _ ⟨13, 1, 0, 0, 100⟩ _ rfl rfl (by omega) (gcd_at x y 0 (by omega)) (by rfl) rfl 100 (by decide) (by omega) x (gcd_x x y))) (Reaches.one rfl (step_load _ _ 1 _ ⟨13, 2, 0, 0, 101⟩ _ rfl rfl (by omega) (gcd_at x y 1 (by omega)) (by rfl) rfl 101 (by rfl) (by omega) y (gcd_y x y)))⟩
theorem gcd_round (x y : Int) (a b : Nat) (ha : a < 4294967296) (hb : b ≠ 0) (hbw : b < 4294967296) (st co r3 r4 : Int) : ∃ st' co' r3' r4', Reaches 8 (gcdAt x y a b st co r3 r4) (gcdAt x y b (a % b) st' co' r3' r4') := by
  have s1 : Mach.step (gcdAt x y a b st co r3 r4) = (⟨⟨3, wrap (st + 1), co, false, [0, a, b, r3, r4, 0, 0, 0]⟩, gcdCells x y, []⟩, 0) :=
    step_plain _ _ 2 _ ⟨15, 2, 0, 0, 5⟩ _ _ rfl rfl (by omega) (gcd_at x y 2 (by omega)) (by rfl) (by decide) (by decide) (by
      simp [plain, isPlain, nextOf, aluOf, Cs.reg, one, hb, wrap])
  generalize wrap (st + 1) = S1 at s1
  have s2 := step_plain (gcdCells x y) [] 3 _ ⟨10, 3, 1, 2, 0⟩ ⟨3, S1, co, false, [0, a, b, r3, r4, 0, 0, 0]⟩ ⟨4, wrap (S1 + 1), co, false, [0, a, b, ((a / b : Nat) : Int), r4, 0, 0, 0]⟩ rfl rfl (by omega) (gcd_at x y 3 (by omega)) (by rfl) (by decide) (by decide) (by
      simp [plain, isPlain, nextOf, aluOf, Cs.reg, hb]
      decide)
  generalize wrap (S1 + 1) = S2 at s2
  have hdm := Nat.div_add_mod a b
  have hle : a / b * b ≤ a := Nat.div_mul_le_self a b
  have hcm : b * (a / b) = a / b * b := Nat.mul_comm _ _
  have s3 := step_plain (gcdCells x y) [] 4 _ ⟨3, 3, 3, 2, 0⟩ ⟨4, S2, co, false, [0, a, b, ((a / b : Nat) : Int), r4, 0, 0, 0]⟩ ⟨5, wrap (S2 + 1), co, false, [0, a, b, ((a / b * b : Nat) : Int), r4, 0, 0, 0]⟩ rfl rfl (by omega) (gcd_at x y 4 (by omega)) (by rfl) (by decide) (by decide) (by
      have : wrap (((a / b : Nat) : Int) * (b : Int)) = ((a / b * b : Nat) : Int) := by
        rw [← Int.natCast_mul]; unfold wrap; omega
      generalize ((a / b * b : Nat) : Int) = M at *
      generalize ((a / b : Nat) : Int) = Q at *
      simp [plain, isPlain, nextOf, aluOf, Cs.reg, this]
      decide)
  generalize wrap (S2 + 1) = S3 at s3
  have s4 := step_plain (gcdCells x y) [] 5 _ ⟨2, 3, 1, 3, 0⟩ ⟨5, S3, co, false, [0, a, b, ((a / b * b : Nat) : Int), r4, 0, 0, 0]⟩ ⟨6, wrap (S3 + 1), co, false, [0, a, b, ((a % b : Nat) : Int), r4, 0, 0, 0]⟩ rfl rfl (by omega) (gcd_at x y 5 (by omega)) (by rfl) (by decide) (by decide) (by
      have : wrap ((a : Int) - ((a / b * b : Nat) : Int)) = ((a % b : Nat) : Int) := by
        unfold wrap; omega
      generalize ((a / b * b : Nat) : Int) = M at *
      generalize ((a % b : Nat) : Int) = Q at *
      simp [plain, isPlain, nextOf, aluOf, Cs.reg, this]
      decide)
  generalize wrap (S3 + 1) = S4 at s4
  have hmod : a % b < 4294967296 := Nat.lt_of_le_of_lt (Nat.mod_le _ _) ha
  generalize hR : a % b = R at *
  have s5 := step_plain (gcdCells x y) [] 6 _ ⟨11, 1, 2, 0, 0⟩ ⟨6, S4, co, false, [0, a, b, R, r4, 0, 0, 0]⟩ ⟨7, wrap (S4 + 1), co, false, [0, b, b, R, r4, 0, 0, 0]⟩ rfl rfl (by omega) (gcd_at x y 6 (by omega)) (by rfl) (by decide) (by decide) (by
      have : wrap (b : Int) = b := by unfold wrap; omega
      simp [plain, isPlain, nextOf, aluOf, Cs.reg, this]
      decide)
  generalize wrap (S4 + 1) = S5 at s5
  have s6 := step_plain (gcdCells x y) [] 7 _ ⟨18, 4, 0, 0, 9⟩ ⟨7, S5, co, false, [0, b, b, R, r4, 0, 0, 0]⟩ ⟨9, wrap (S5 + 1), co, false, [0, b, b, R, 8, 0, 0, 0]⟩ rfl rfl (by omega) (gcd_at x y 7 (by omega)) (by rfl) (by decide) (by decide) (by
      simp [plain, isPlain, nextOf, aluOf, Cs.reg]
      decide)
  generalize wrap (S5 + 1) = S6 at s6
  have s7 := step_plain (gcdCells x y) [] 9 _ ⟨11, 2, 3, 0, 0⟩ ⟨9, S6, co, false, [0, b, b, R, 8, 0, 0, 0]⟩ ⟨10, wrap (S6 + 1), co, false, [0, b, R, R, 8, 0, 0, 0]⟩ rfl rfl (by omega) (gcd_at x y 9 (by omega)) (by rfl) (by decide) (by decide) (by
      have : wrap (R : Int) = R := by unfold wrap; omega
      simp [plain, isPlain, nextOf, aluOf, Cs.reg, this]
      decide)
  generalize wrap (S6 + 1) = S7 at s7
  have s8 := step_plain (gcdCells x y) [] 10 _ ⟨18, 4, 0, 0, 2⟩ ⟨10, S7, co, false, [0, b, R, R, 8, 0, 0, 0]⟩ ⟨2, wrap (S7 + 1), co, false, [0, b, R, R, 11, 0, 0, 0]⟩ rfl rfl (by omega) (gcd_at x y 10 (by omega)) (by rfl) (by decide) (by decide) (by
      simp [plain, isPlain, nextOf, aluOf, Cs.reg]
      decide)
  exact ⟨_, _, _, _, (Reaches.one rfl s1).trans ((Reaches.one rfl s2).trans ((Reaches.one rfl s3).trans ((Reaches.one rfl s4).trans ((Reaches.one rfl s5).trans ((Reaches.one rfl s6).trans ((Reaches.one rfl s7).trans (Reaches.one rfl s8)))))))⟩
/-- The machine halts, within so many steps, with this code. -/
def Halts (k : Nat) (m : Mach) (c : Int) : Prop := ∃ j m', j ≤ k ∧ Reaches j m m' ∧ m'.s.over = true ∧ m'.s.code = c
theorem Halts.behind {j k k' : Nat} {m m' : Mach} {c : Int} (h : Reaches j m m') (h' : Halts k m' c) (hk : j + k ≤ k') : Halts k' m c := by
  obtain ⟨i, e, hi, hr, ho, hc⟩ := h'
  exact ⟨j + i, e, by omega, h.trans hr, ho, hc⟩
theorem gcd_end (x y : Int) (a : Nat) (st co r3 r4 : Int) : Halts 2 (gcdAt x y a 0 st co r3 r4) a := by
  have s1 : Mach.step (gcdAt x y a 0 st co r3 r4) = (⟨⟨8, wrap (st + 1), co, false, [0, a, 0, r3, r4, 0, 0, 0]⟩, gcdCells x y, []⟩, 0) :=
    step_plain _ _ 2 _ ⟨15, 2, 0, 0, 5⟩ _ _ rfl rfl (by omega) (gcd_at x y 2 (by omega)) (by rfl) (by decide) (by decide) (by
      simp [plain, isPlain, nextOf, aluOf, Cs.reg, one, wrap])
  have s2 := step_plain (gcdCells x y) [] 8 _ ⟨0, 1, 0, 0, 0⟩ ⟨8, wrap (st + 1), co, false, [0, a, 0, r3, r4, 0, 0, 0]⟩ ⟨8, wrap (wrap (st + 1) + 1), a, true, [0, a, 0, r3, r4, 0, 0, 0]⟩ rfl rfl (by omega) (gcd_at x y 8 (by omega)) (by rfl) (by decide) (by decide) (by
      simp [plain, isPlain, nextOf, aluOf, Cs.reg])
  exact ⟨2, ⟨⟨8, wrap (wrap (st + 1) + 1), a, true, [0, a, 0, r3, r4, 0, 0, 0]⟩, gcdCells x y, []⟩, Nat.le_refl _, (Reaches.one rfl s1).trans (Reaches.one rfl s2), rfl, rfl⟩
theorem gcd_rounds (x y : Int) : ∀ (K a b : Nat), a < 4294967296 → b < 4294967296 → b < 2 ^ K → ∀ st co r3 r4, Halts (16 * K + 10) (gcdAt x y a b st co r3 r4) (Nat.gcd a b)
  | 0, a, b, ha, hb, hK, st, co, r3, r4 => by
    obtain rfl : b = 0 := by simp at hK; exact hK
    rw [Nat.gcd_zero_right]
    exact Halts.behind (j := 0) rfl (gcd_end x y a st co r3 r4) (by omega)
  | K + 1, a, b, ha, hb, hK, st, co, r3, r4 => by
    by_cases h0 : b = 0
    · subst h0
      rw [Nat.gcd_zero_right]
      exact Halts.behind (j := 0) rfl (gcd_end x y a st co r3 r4) (by omega)
    obtain ⟨st1, co1, r31, r41, h1⟩ := gcd_round x y a b ha h0 hb st co r3 r4
    have hg1 : Nat.gcd b (a % b) = Nat.gcd a b := by rw [Nat.gcd_comm, ← Nat.gcd_rec, Nat.gcd_comm]
    rw [← hg1]
    have hlt : a % b < b := Nat.mod_lt _ (Nat.pos_of_ne_zero h0)
    generalize a % b = r at *
    by_cases hr : r = 0
    · subst hr
      rw [Nat.gcd_zero_right]
      exact Halts.behind h1 (gcd_end x y b st1 co1 r31 r41) (by omega)
    obtain ⟨st2, co2, r32, r42, h2⟩ := gcd_round x y b r hb hr (by omega) st1 co1 r31 r41
    have hg2 : Nat.gcd r (b % r) = Nat.gcd b r := by rw [Nat.gcd_comm, ← Nat.gcd_rec, Nat.gcd_comm]
    rw [← hg2]
    have hlt2 : b % r < r := Nat.mod_lt _ (Nat.pos_of_ne_zero hr)
    have hhalf : b % r < 2 ^ K := by
      rw [Nat.pow_succ] at hK
      by_cases hq : 2 * r ≤ b
      · omega
      · have : b % r = b - r := by
          rw [Nat.mod_eq_sub_mod (by omega), Nat.mod_eq_of_lt (by omega)]
        omega
    exact Halts.behind (h1.trans h2) (gcd_rounds x y K r (b % r) (by omega) (by omega) hhalf st2 co2 r32 r42) (by omega)
theorem gcd_halts (x y : Nat) (hx : x < 4294967296) (hy : y < 4294967296) : Halts 600 (newMach (gcdProg x y) []) (Nat.gcd x y) := by
  obtain ⟨st, co, h⟩ := gcd_head x y
  exact Halts.behind h (gcd_rounds x y 32 x y hx hy (by omega) st co 0 0) (by omega)
end Dp
end Go.Proofs.YtdipojfngdceoaaDoor

/- The greatest common divisor, found by the machine, each of its steps proven: the walk. -/
namespace Go.Proofs.YtdipojfngdceoaaDoor
open Go.RowKit

namespace Dp
theorem gcd_ok (X Y : Nat) (hX : X < 4294967296) (hY : Y < 4294967296) : newOk (gcdProg X Y) [] = true := by
  unfold newOk gcdProg
  simp [gcdHead, opw]
  omega
end Dp

set_option maxRecDepth 100000 in
set_option maxHeartbeats 2000000 in
theorem keepEuclid (w : World) (eb : Addr) (x y : Int) (he : Dp.ErrAt w eb) (hx : -9223372036854775808 ≤ x ∧ x ≤ 9223372036854775807) (hy : -9223372036854775808 ≤ y ∧ y ≤ 9223372036854775807) :
    Calls Tryd.prog 5 #[.int .i64 x, .int .i64 y] w fun e w' => e = .returned (.bool true) ∧ Dp.Keeps (fun _ => False) w w' := by
  have HE := Hid.mk_ he
  clear he
  go_enter Tryd.func5, Tryd.ntmps5
  go_wp2_with fail
  refine (keepSure w eb HE.out).mono ?_
  rintro e w1 ⟨rfl, k1⟩
  have HK := Hid.mk_ k1
  clear k1
  go_wp2_with fail
  refine (keepPick x 4294967296 _ hx (by omega) (by omega)).mono ?_
  rintro e w2 ⟨rfl, rfl⟩
  go_wp2_with fail
  refine (keepPick y 4294967296 _ hy (by omega) (by omega)).mono ?_
  rintro e w3 ⟨rfl, rfl⟩
  obtain ⟨X, hX, hXl⟩ : ∃ X : Nat, Dp.pickOf x 4294967296 = (X : Int) ∧ X < 4294967296 := ⟨(Dp.pickOf x 4294967296).toNat, by have := Dp.pickOf_bd x 4294967296 (by omega); omega, by have := Dp.pickOf_bd x 4294967296 (by omega); omega⟩
  obtain ⟨Y, hY, hYl⟩ : ∃ Y : Nat, Dp.pickOf y 4294967296 = (Y : Int) ∧ Y < 4294967296 := ⟨(Dp.pickOf y 4294967296).toNat, by have := Dp.pickOf_bd y 4294967296 (by omega); omega, by have := Dp.pickOf_bd y 4294967296 (by omega); omega⟩
  rw [hX, hY]
  clear hX hY hx hy
  go_wp2_with (at_make; refine Dp.wpList_make_row _ rfl _ _ 37 rfl 3 (.int .i64 0) 8 Tryd.underlying37 infoInt rfl _ _ _ _ 102 rfl rfl (by omega) (by omega) (by omega) (by unfold maxLen; omega) ?_)
  intro w4 r4 z4 k4
  have r4' : Dp.Row w4 w3.heap.size 3 (Dp.regCells (List.replicate 102 0)) := r4
  have hg0 : w.heap.size ≤ w3.heap.size := HK.out.size
  generalize hG0 : w3.heap.size = G0 at *
  have HR := Hid.mk_ r4'
  have HL : Hid (∀ i, i < 102 → i < (List.replicate 102 (0 : Int)).length) := fun i hi => by rw [List.length_replicate]; exact hi
  replace HK := Hid.mk_ (HK.out.trans k4)
  clear r4 r4' k4 z4 hG0
  go_wp2_with fail
  refine (keepOp 13 1 0 _ (by omega) (by omega) (by omega)).mono ?_
  rintro e s0 ⟨rfl, ew⟩
  rw [show Dp.opw 13 1 0 = 880803840 from rfl]
  rw [← ew] at HR HK
  clear ew
  have c0 := HR.out.cellAt 0 (by rw [Dp.regCells_len]; exact HL.out 0 (by omega))
  have f0 := HR.out.frozen 0
  generalize (Dp.regCells (List.replicate 102 0))[0]'(by rw [Dp.regCells_len]; exact HL.out 0 (by omega)) = y at c0
  replace HR := Hid.mk_ (Dp.ints_set HR.out 0 880803940)
  replace HL : Hid (∀ i, i < 102 → i < ((List.replicate 102 0).set 0 880803940).length) := fun i hi => by rw [List.length_set]; exact HL.out i hi
  replace HK := Hid.mk_ (HK.out.setCell (p := ⟨G0, 0, none⟩) (.inl (by have := HK.out.size; omega)) (.int .i64 880803940))
  go_wp2_with fail
  refine (keepOp 13 2 0 _ (by omega) (by omega) (by omega)).mono ?_
  rintro e s1 ⟨rfl, ew⟩
  rw [show Dp.opw 13 2 0 = 889192448 from rfl]
  rw [← ew] at HR HK
  clear ew
  have c1 := HR.out.cellAt 1 (by rw [Dp.regCells_len]; exact HL.out 1 (by omega))
  have f1 := HR.out.frozen 1
  generalize (Dp.regCells ((List.replicate 102 0).set 0 880803940))[1]'(by rw [Dp.regCells_len]; exact HL.out 1 (by omega)) = y at c1
  replace HR := Hid.mk_ (Dp.ints_set HR.out 1 889192549)
  replace HL : Hid (∀ i, i < 102 → i < (((List.replicate 102 0).set 0 880803940).set 1 889192549).length) := fun i hi => by rw [List.length_set]; exact HL.out i hi
  replace HK := Hid.mk_ (HK.out.setCell (p := ⟨G0, 1, none⟩) (.inl (by have := HK.out.size; omega)) (.int .i64 889192549))
  go_wp2_with fail
  refine (keepOp 15 2 0 _ (by omega) (by omega) (by omega)).mono ?_
  rintro e s2 ⟨rfl, ew⟩
  rw [show Dp.opw 15 2 0 = 1023410176 from rfl]
  rw [← ew] at HR HK
  clear ew
  have c2 := HR.out.cellAt 2 (by rw [Dp.regCells_len]; exact HL.out 2 (by omega))
  have f2 := HR.out.frozen 2
  generalize (Dp.regCells (((List.replicate 102 0).set 0 880803940).set 1 889192549))[2]'(by rw [Dp.regCells_len]; exact HL.out 2 (by omega)) = y at c2
  replace HR := Hid.mk_ (Dp.ints_set HR.out 2 1023410181)
  replace HL : Hid (∀ i, i < 102 → i < ((((List.replicate 102 0).set 0 880803940).set 1 889192549).set 2 1023410181).length) := fun i hi => by rw [List.length_set]; exact HL.out i hi
  replace HK := Hid.mk_ (HK.out.setCell (p := ⟨G0, 2, none⟩) (.inl (by have := HK.out.size; omega)) (.int .i64 1023410181))
  go_wp2_with fail
  refine (keepOp 10 3 1 _ (by omega) (by omega) (by omega)).mono ?_
  rintro e s3 ⟨rfl, ew⟩
  rw [show Dp.opw 10 3 1 = 697303040 from rfl]
  rw [← ew] at HR HK
  clear ew
  have c3 := HR.out.cellAt 3 (by rw [Dp.regCells_len]; exact HL.out 3 (by omega))
  have f3 := HR.out.frozen 3
  generalize (Dp.regCells ((((List.replicate 102 0).set 0 880803940).set 1 889192549).set 2 1023410181))[3]'(by rw [Dp.regCells_len]; exact HL.out 3 (by omega)) = y at c3
  replace HR := Hid.mk_ (Dp.ints_set HR.out 3 697565184)
  replace HL : Hid (∀ i, i < 102 → i < (((((List.replicate 102 0).set 0 880803940).set 1 889192549).set 2 1023410181).set 3 697565184).length) := fun i hi => by rw [List.length_set]; exact HL.out i hi
  replace HK := Hid.mk_ (HK.out.setCell (p := ⟨G0, 3, none⟩) (.inl (by have := HK.out.size; omega)) (.int .i64 697565184))
  go_wp2_with fail
  refine (keepOp 3 3 3 _ (by omega) (by omega) (by omega)).mono ?_
  rintro e s4 ⟨rfl, ew⟩
  rw [show Dp.opw 3 3 3 = 229638144 from rfl]
  rw [← ew] at HR HK
  clear ew
  have c4 := HR.out.cellAt 4 (by rw [Dp.regCells_len]; exact HL.out 4 (by omega))
  have f4 := HR.out.frozen 4
  generalize (Dp.regCells (((((List.replicate 102 0).set 0 880803940).set 1 889192549).set 2 1023410181).set 3 697565184))[4]'(by rw [Dp.regCells_len]; exact HL.out 4 (by omega)) = y at c4
  replace HR := Hid.mk_ (Dp.ints_set HR.out 4 229900288)
  replace HL : Hid (∀ i, i < 102 → i < ((((((List.replicate 102 0).set 0 880803940).set 1 889192549).set 2 1023410181).set 3 697565184).set 4 229900288).length) := fun i hi => by rw [List.length_set]; exact HL.out i hi
  replace HK := Hid.mk_ (HK.out.setCell (p := ⟨G0, 4, none⟩) (.inl (by have := HK.out.size; omega)) (.int .i64 229900288))
  go_wp2_with fail
  refine (keepOp 2 3 1 _ (by omega) (by omega) (by omega)).mono ?_
  rintro e s5 ⟨rfl, ew⟩
  rw [show Dp.opw 2 3 1 = 160432128 from rfl]
  rw [← ew] at HR HK
  clear ew
  have c5 := HR.out.cellAt 5 (by rw [Dp.regCells_len]; exact HL.out 5 (by omega))
  have f5 := HR.out.frozen 5
  generalize (Dp.regCells ((((((List.replicate 102 0).set 0 880803940).set 1 889192549).set 2 1023410181).set 3 697565184).set 4 229900288))[5]'(by rw [Dp.regCells_len]; exact HL.out 5 (by omega)) = y at c5
  replace HR := Hid.mk_ (Dp.ints_set HR.out 5 160825344)
  replace HL : Hid (∀ i, i < 102 → i < (((((((List.replicate 102 0).set 0 880803940).set 1 889192549).set 2 1023410181).set 3 697565184).set 4 229900288).set 5 160825344).length) := fun i hi => by rw [List.length_set]; exact HL.out i hi
  replace HK := Hid.mk_ (HK.out.setCell (p := ⟨G0, 5, none⟩) (.inl (by have := HK.out.size; omega)) (.int .i64 160825344))
  go_wp2_with fail
  refine (keepOp 11 1 2 _ (by omega) (by omega) (by omega)).mono ?_
  rintro e s6 ⟨rfl, ew⟩
  rw [show Dp.opw 11 1 2 = 748683264 from rfl]
  rw [← ew] at HR HK
  clear ew
  have c6 := HR.out.cellAt 6 (by rw [Dp.regCells_len]; exact HL.out 6 (by omega))
  have f6 := HR.out.frozen 6
  generalize (Dp.regCells (((((((List.replicate 102 0).set 0 880803940).set 1 889192549).set 2 1023410181).set 3 697565184).set 4 229900288).set 5 160825344))[6]'(by rw [Dp.regCells_len]; exact HL.out 6 (by omega)) = y at c6
  replace HR := Hid.mk_ (Dp.ints_set HR.out 6 748683264)
  replace HL : Hid (∀ i, i < 102 → i < ((((((((List.replicate 102 0).set 0 880803940).set 1 889192549).set 2 1023410181).set 3 697565184).set 4 229900288).set 5 160825344).set 6 748683264).length) := fun i hi => by rw [List.length_set]; exact HL.out i hi
  replace HK := Hid.mk_ (HK.out.setCell (p := ⟨G0, 6, none⟩) (.inl (by have := HK.out.size; omega)) (.int .i64 748683264))
  go_wp2_with fail
  refine (keepOp 18 4 0 _ (by omega) (by omega) (by omega)).mono ?_
  rintro e s7 ⟨rfl, ew⟩
  rw [show Dp.opw 18 4 0 = 1241513984 from rfl]
  rw [← ew] at HR HK
  clear ew
  have c7 := HR.out.cellAt 7 (by rw [Dp.regCells_len]; exact HL.out 7 (by omega))
  have f7 := HR.out.frozen 7
  generalize (Dp.regCells ((((((((List.replicate 102 0).set 0 880803940).set 1 889192549).set 2 1023410181).set 3 697565184).set 4 229900288).set 5 160825344).set 6 748683264))[7]'(by rw [Dp.regCells_len]; exact HL.out 7 (by omega)) = y at c7
  replace HR := Hid.mk_ (Dp.ints_set HR.out 7 1241513993)
  replace HL : Hid (∀ i, i < 102 → i < (((((((((List.replicate 102 0).set 0 880803940).set 1 889192549).set 2 1023410181).set 3 697565184).set 4 229900288).set 5 160825344).set 6 748683264).set 7 1241513993).length) := fun i hi => by rw [List.length_set]; exact HL.out i hi
  replace HK := Hid.mk_ (HK.out.setCell (p := ⟨G0, 7, none⟩) (.inl (by have := HK.out.size; omega)) (.int .i64 1241513993))
  go_wp2_with fail
  refine (keepOp 0 1 0 _ (by omega) (by omega) (by omega)).mono ?_
  rintro e s8 ⟨rfl, ew⟩
  rw [show Dp.opw 0 1 0 = 8388608 from rfl]
  rw [← ew] at HR HK
  clear ew
  have c8 := HR.out.cellAt 8 (by rw [Dp.regCells_len]; exact HL.out 8 (by omega))
  have f8 := HR.out.frozen 8
  generalize (Dp.regCells (((((((((List.replicate 102 0).set 0 880803940).set 1 889192549).set 2 1023410181).set 3 697565184).set 4 229900288).set 5 160825344).set 6 748683264).set 7 1241513993))[8]'(by rw [Dp.regCells_len]; exact HL.out 8 (by omega)) = y at c8
  replace HR := Hid.mk_ (Dp.ints_set HR.out 8 8388608)
  replace HL : Hid (∀ i, i < 102 → i < ((((((((((List.replicate 102 0).set 0 880803940).set 1 889192549).set 2 1023410181).set 3 697565184).set 4 229900288).set 5 160825344).set 6 748683264).set 7 1241513993).set 8 8388608).length) := fun i hi => by rw [List.length_set]; exact HL.out i hi
  replace HK := Hid.mk_ (HK.out.setCell (p := ⟨G0, 8, none⟩) (.inl (by have := HK.out.size; omega)) (.int .i64 8388608))
  go_wp2_with fail
  refine (keepOp 11 2 3 _ (by omega) (by omega) (by omega)).mono ?_
  rintro e s9 ⟨rfl, ew⟩
  rw [show Dp.opw 11 2 3 = 758120448 from rfl]
  rw [← ew] at HR HK
  clear ew
  have c9 := HR.out.cellAt 9 (by rw [Dp.regCells_len]; exact HL.out 9 (by omega))
  have f9 := HR.out.frozen 9
  generalize (Dp.regCells ((((((((((List.replicate 102 0).set 0 880803940).set 1 889192549).set 2 1023410181).set 3 697565184).set 4 229900288).set 5 160825344).set 6 748683264).set 7 1241513993).set 8 8388608))[9]'(by rw [Dp.regCells_len]; exact HL.out 9 (by omega)) = y at c9
  replace HR := Hid.mk_ (Dp.ints_set HR.out 9 758120448)
  replace HL : Hid (∀ i, i < 102 → i < (((((((((((List.replicate 102 0).set 0 880803940).set 1 889192549).set 2 1023410181).set 3 697565184).set 4 229900288).set 5 160825344).set 6 748683264).set 7 1241513993).set 8 8388608).set 9 758120448).length) := fun i hi => by rw [List.length_set]; exact HL.out i hi
  replace HK := Hid.mk_ (HK.out.setCell (p := ⟨G0, 9, none⟩) (.inl (by have := HK.out.size; omega)) (.int .i64 758120448))
  go_wp2_with fail
  refine (keepOp 18 4 0 _ (by omega) (by omega) (by omega)).mono ?_
  rintro e s10 ⟨rfl, ew⟩
  rw [show Dp.opw 18 4 0 = 1241513984 from rfl]
  rw [← ew] at HR HK
  clear ew
  have c10 := HR.out.cellAt 10 (by rw [Dp.regCells_len]; exact HL.out 10 (by omega))
  have f10 := HR.out.frozen 10
  generalize (Dp.regCells (((((((((((List.replicate 102 0).set 0 880803940).set 1 889192549).set 2 1023410181).set 3 697565184).set 4 229900288).set 5 160825344).set 6 748683264).set 7 1241513993).set 8 8388608).set 9 758120448))[10]'(by rw [Dp.regCells_len]; exact HL.out 10 (by omega)) = y at c10
  have d100 := HR.out.cellAt 100 (by rw [Dp.regCells_len]; exact HL.out 100 (by omega))
  have e100 := HR.out.frozen 100
  generalize (Dp.regCells (((((((((((List.replicate 102 0).set 0 880803940).set 1 889192549).set 2 1023410181).set 3 697565184).set 4 229900288).set 5 160825344).set 6 748683264).set 7 1241513993).set 8 8388608).set 9 758120448))[100]'(by rw [Dp.regCells_len]; exact HL.out 100 (by omega)) = z at d100
  have d101 := HR.out.cellAt 101 (by rw [Dp.regCells_len]; exact HL.out 101 (by omega))
  have e101 := HR.out.frozen 101
  generalize (Dp.regCells (((((((((((List.replicate 102 0).set 0 880803940).set 1 889192549).set 2 1023410181).set 3 697565184).set 4 229900288).set 5 160825344).set 6 748683264).set 7 1241513993).set 8 8388608).set 9 758120448))[101]'(by rw [Dp.regCells_len]; exact HL.out 101 (by omega)) = z at d101
  replace HR := Hid.mk_ (Dp.ints_set HR.out 10 1241513986)
  replace HL : Hid (∀ i, i < 102 → i < ((((((((((((List.replicate 102 0).set 0 880803940).set 1 889192549).set 2 1023410181).set 3 697565184).set 4 229900288).set 5 160825344).set 6 748683264).set 7 1241513993).set 8 8388608).set 9 758120448).set 10 1241513986).length) := fun i hi => by rw [List.length_set]; exact HL.out i hi
  replace HK := Hid.mk_ (HK.out.setCell (p := ⟨G0, 10, none⟩) (.inl (by have := HK.out.size; omega)) (.int .i64 1241513986))
  replace HR := Hid.mk_ (Dp.ints_set (Dp.ints_set HR.out 100 X) 101 Y)
  replace HK := Hid.mk_ ((HK.out.setCell (p := ⟨G0, 100, none⟩) (.inl (by have := HK.out.size; omega)) (.int .i64 X)).setCell (p := ⟨G0, 101, none⟩) (.inl (by have := HK.out.size; omega)) (.int .i64 Y))
  go_wp2_with fail
  have hLL : ((((((((((((((List.replicate 102 0).set 0 880803940).set 1 889192549).set 2 1023410181).set 3 697565184).set 4 229900288).set 5 160825344).set 6 748683264).set 7 1241513993).set 8 8388608).set 9 758120448).set 10 1241513986).set 100 (X : Int)).set 101 (Y : Int)) = Dp.gcdProg X Y := rfl
  rw [hLL] at HR
  refine (progNew _ _ _ (Dp.gcdProg X Y) [] (Dp.ints_row (xs := Dp.gcdProg X Y) (post := []) (by rw [List.append_nil]; exact HR.out) (by simp [Dp.gcdProg, Dp.gcdHead])) (Dp.parts_nil _) (Dp.gcd_ok X Y hXl hYl)).mono ?_
  rintro e wn ⟨⟨b, vs, G, rfl, hb, hG, hM⟩, kn⟩
  have HM := Hid.mk_ hM
  have hbw : w.heap.size ≤ b := by have := HK.out.size; omega
  replace HK := Hid.mk_ (HK.out.trans kn)
  clear hM kn hb hG HR HL hLL
  have HH := Hid.mk_ (Dp.gcd_halts X Y hXl hYl)
  go_wp2
  go_loopw [9, 10] (fun va vb wr => ∃ A B : Nat, A < 4294967296 ∧ B < 4294967296 ∧ va = .int .i64 A ∧ vb = .int .i64 B ∧ Hid (Nat.gcd A B = Nat.gcd X Y) ∧ wr = wn) (fun _ vb _ => (intOf vb).toNat)
  case atStart => exact ⟨X, Y, hXl, hYl, rfl, rfl, rfl, rfl⟩
  case round =>
    obtain ⟨A, B, hA, hB, rfl, rfl, HGC, rfl⟩ := hrel
    by_cases hB0 : B = 0
    · subst hB0
      rw [show ((0 : Nat) : Int) = 0 from rfl]
      have HGA : Hid (A = Nat.gcd X Y) := by unfold Hid; rw [← HGC.out, Nat.gcd_zero_right]
      clear HGC
      go_wp2
      go_loopw [12] (fun i wr2 => ∃ (k j : Nat) (m m' : Dp.Mach), i = .int .i64 k ∧ k + j ≤ 600 ∧ Hid (Dp.Reaches j m m' ∧ m'.s.over = true ∧ m'.s.code = A) ∧ Hid (Dp.ProgM wr2 b G vs m) ∧ Hid (Dp.Keeps (fun _ => False) w wr2)) (fun i _ => 2000 - (intOf i).toNat)
      case atStart =>
        obtain ⟨j, m', hj, hr, ho, hc⟩ := HH.out
        exact ⟨0, j, _, m', rfl, by omega, ⟨hr, ho, by rw [hc, HGA.out]⟩, HM, HK⟩
      case round =>
        obtain ⟨k, j, m, m', rfl, hkj, HRE, HMr, HKr⟩ := hrel
        clear HM HK HH
        have hok := HMr.out.ok
        have hk2 : (k : Int) < 2000 := by omega
        go_wp2_with fail
        refine (progMLook _ b G vs m HMr.out).mono ?_
        rintro e w5 ⟨rfl, k5⟩
        have HM5 := Hid.mk_ (HMr.out.keep k5 (fun e => e) (fun _ _ e => e))
        have HK5 := Hid.mk_ (HKr.out.trans k5)
        obtain ⟨S, R, hS, hR⟩ : ∃ S : Dp.Cs, ∃ R : Int, S = m.s ∧ R = Dp.root m.cells := ⟨_, _, rfl, rfl⟩
        rw [← hS, ← hR]
        have hSl : S.regs.length = 8 := by rw [hS]; exact hok.s.len
        have HSS := Hid.mk_ hS
        clear hS hR hok HMr HKr k5
        have HML : Hid ((Dp.stCells S R).length = 13) := Dp.stCells_length _ _ hSl
        go_wp2_with (refine Dp.wpList_alloc_row rfl 35 rfl _ zeroState ?_)
        intro w6 r6 z6 k6
        have HR6 := Hid.mk_ (Dp.row_nil r6)
        go_wp2_with (refine Dp.wpList_store_in rfl 35 _ _ rfl w5.heap.size 0 rfl (Dp.stCells S R) rfl 35 [] _ [] HR6.out rfl (by rw [HML.out]; rfl) (by rw [sizeState, HML.out]) (Dp.stCells_one _ _) ?_)
        intro w7 r7 z7 k7
        have r7' : Dp.Row w7 w5.heap.size 35 (Dp.stCells S R) := by simpa using r7
        have k57 : Dp.Keeps (fun _ => False) w5 w7 := k6.next k7 (fun k hk e => by omega)
        have a2 : w7.cell? ⟨w5.heap.size, 2, none⟩ = some (.int .i64 S.code) := r7'.cell 2
        have a3 : w7.cell? ⟨w5.heap.size, 3, none⟩ = some (.bool S.over) := r7'.cell 3
        have HM7 := Hid.mk_ (HM5.out.keep k57 (fun e => e) (fun _ _ e => e))
        have HK7 := Hid.mk_ (HK5.out.trans k57)
        clear r6 r7 r7' HR6 k6 k7 k57 z6 z7 HM5 HK5 HML
        cases j with
        | zero =>
          obtain ⟨hre, hov, hco⟩ := HRE.out
          have hre' : m' = m := hre
          subst hre'
          rw [← HSS.out] at hov hco
          rw [hov] at a3
          rw [hco] at a2
          clear hre hov hco HRE
          go_wp2
          go_ret
          exact ⟨rfl, HK7.out⟩
        | succ j =>
          obtain ⟨⟨hov, hst, hre⟩, hov', hco'⟩ := HRE.out
          rw [← HSS.out] at hov
          rw [hov] at a3
          have HRE2 : Hid (Dp.Reaches j m.step.1 m' ∧ m'.s.over = true ∧ m'.s.code = A) := ⟨hre, hov', hco'⟩
          have HT1 : Hid (Dp.told1 m = Dp.stamp m.step.1.s (Dp.root m.step.1.cells)) := if_pos hst
          have HT2 : Hid (Dp.told2 m = 0) := if_pos hst
          have HST := Hid.mk_ hst
          clear hov hre hov' hco' HRE hst
          go_wp2_with fail
          refine (progMStamp w7 b G vs m HM7.out).mono ?_
          rintro e w8 ⟨rfl, k8⟩
          have HM8 := Hid.mk_ (HM7.out.keep k8 (fun e => e) (fun _ _ e => e))
          have HK8 := Hid.mk_ (HK7.out.trans k8)
          clear k8 HM7 HK7 a2 a3
          go_wp2_with fail
          refine (progMWitness w8 b G vs m HM8.out).mono ?_
          rintro e w9 ⟨v9, rfl, ho, hf, k9⟩
          have HM9 := Hid.mk_ (HM8.out.keep k9 (fun e => e) (fun _ _ e => e))
          have HK9 := Hid.mk_ (HK8.out.trans k9)
          have HO := Hid.mk_ ho
          have HF := Hid.mk_ hf
          have hs9 := k9.size
          have hbl : b < w9.heap.size := HM9.out.row.lt
          have hbl8 : b < w8.heap.size := HM8.out.row.lt
          obtain ⟨va, vc, ev⟩ := ho.isSlice
          subst ev
          generalize (Dp.vals (Dp.witnessOf m)).length = L at *
          rw [HST.out]
          have HOK := Hid.mk_ HM9.out.ok
          clear HM8 HK8 k9 ho hf
          go_wp2_with fail
          refine (progMStep w9 b G vs m HM9.out).mono ?_
          rintro e w10 ⟨rfl, k10, hM10⟩
          have HM10 := Hid.mk_ hM10
          have HK10 : Hid (Dp.Keeps (fun _ => False) w w10) := HK9.out.next k10 (fun q hq e => by omega)
          have HO10 := Hid.mk_ (HO.out.keep k10 (fun g hg e => by have := HF.out g hg; omega))
          rw [HST.out]
          clear HM9 HK9 k10 hM10 HO HF
          go_wp2_with fail
          refine (keepCheck w10 eb m 5 _ (HE.out.keep HK10.out) HOK.out HO10.out).mono ?_
          rintro e w11 ⟨rfl, k11⟩
          rw [HT1.out, HT2.out]
          have HM11 := Hid.mk_ (HM10.out.keep k11 (fun e => e) (fun _ _ e => e))
          have HK11 := Hid.mk_ (HK10.out.trans k11)
          clear HM10 HK10 k11 HO10
          generalize Dp.stamp m.s (Dp.root m.cells) = S0 at *
          go_wp2_with fail
          refine (progMStamp w11 b G vs _ HM11.out).mono ?_
          rintro e w12 ⟨rfl, k12⟩
          have HM12 := Hid.mk_ (HM11.out.keep k12 (fun e => e) (fun _ _ e => e))
          have HK12 := Hid.mk_ (HK11.out.trans k12)
          clear HM11 HK11 k12
          generalize Dp.stamp m.step.1.s (Dp.root m.step.1.cells) = S2 at *
          go_wp2
          go_roundw
          case rel =>
            exact ⟨k + 1, j, _, m', by go_num, by omega, HRE2, HM12, HK12⟩
          case measure => simp [intOf]; omega
    · have HG2 : Hid (Nat.gcd B (A % B) = Nat.gcd X Y) := by
        unfold Hid
        rw [← HGC.out, Nat.gcd_comm, ← Nat.gcd_rec, Nat.gcd_comm]
      have hlt : A % B < B := Nat.mod_lt _ (Nat.pos_of_ne_zero hB0)
      go_wp2
      go_roundw
      case rel => exact ⟨B, A % B, hB, by omega, rfl, by go_num, HG2, trivial⟩
      case measure => simp [intOf]; omega
end Go.Proofs.YtdipojfngdceoaaDoor

/- What arguments hold: the common part. -/
namespace Go.Proofs.YtdipojfngdceoaaDoor
open Go.ChangeShapes Go.WideShapes Go.ChangeAt Go.RowKit

theorem cellsInt : Tryd.prog.cellsOf 3 = 1 := by kernel_rfl
theorem cellsStr : Tryd.prog.cellsOf 9 = 1 := by kernel_rfl
theorem cellsBool : Tryd.prog.cellsOf 4 = 1 := by kernel_rfl

namespace Dp
theorem exists_list {α : Type} {P : Nat → α → Prop} : ∀ n, (∀ i, i < n → ∃ o, P i o) → ∃ l : List α, l.length = n ∧ ∀ i (h : i < l.length), P i l[i]
  | 0, _ => ⟨[], rfl, fun i h => absurd h (by simp)⟩
  | n + 1, h => by
    obtain ⟨l, hl, hp⟩ := exists_list n (fun i hi => h i (by omega))
    obtain ⟨o, ho⟩ := h n (by omega)
    refine ⟨l ++ [o], by simp [hl], fun i hi => ?_⟩
    by_cases hin : i < l.length
    · rw [List.getElem_append_left hin]; exact hp i hin
    · have : i = n := by simp at hi; omega
      subst this
      rw [List.getElem_append_right (by omega)]; simpa [hl] using ho
theorem five {α : Type} {l : List α} (h : l.length = 5) : ∃ a b c d e, l = [a, b, c, d, e] := by
  match l, h with
  | [a, b, c, d, e], _ => exact ⟨a, b, c, d, e, rfl⟩
theorem add_off (b o i : Nat) : (⟨b, o, none⟩ : Addr).add i = ⟨b, o + i, none⟩ := by unfold Addr.add; split <;> simp_all
theorem add_add (a : Addr) (i j : Nat) : (a.add i).add j = a.add (i + j) := by
  unfold Addr.add
  by_cases hi : i = 0
  · subst hi; simp
  · by_cases hj : j = 0
    · subst hj; simp
    · rw [if_neg hj, if_neg hi, if_neg (show ¬ i + j = 0 by omega)]
      simp [Nat.add_assoc]
theorem mapM_at {α β : Type} {f : α → Option β} : ∀ (l : List α) (cs : List β), l.mapM f = some cs → ∀ j (h : j < l.length), f l[j] = cs[j]?
  | [], _, _, j, h => absurd h (by simp)
  | x :: l, cs, h, j, hj => by
    rw [List.mapM_cons] at h
    simp only [Option.bind_eq_bind, Option.bind_eq_some_iff] at h
    obtain ⟨y, hy, ys, hys, hcs⟩ := h
    have hcs' : cs = y :: ys := by simpa using hcs.symm
    subst hcs'
    cases j with
    | zero => exact hy
    | succ j => exact mapM_at l ys hys j (by simpa using hj)
theorem cells_at {w : World} {base : Nat} {a : Addr} {n : Nat} {cs : List Value} (h : w.cells? base a n = some cs) (j : Nat) (hj : j < n) : w.cell? (a.add j) = cs[j]? := by
  unfold World.cells? at h
  split at h
  · have := mapM_at _ _ h j (by simpa using hj)
    simpa using this
  · exact absurd h (by simp)
theorem bulkAll_length {H : Type} : ∀ l : List (DataW H), l.length ≤ Rows.uptoBulkAll l
  | [] => Nat.le_refl _
  | d :: l => by
    have := bulkAll_length l
    have h1 : 1 ≤ Rows.uptoBulk d := by
      cases d
      case lit x => cases x <;> simp only [Rows.uptoBulk] <;> omega
      all_goals (simp only [Rows.uptoBulk]; try omega)
    simp only [List.length_cons, Rows.uptoBulkAll]; omega
theorem bulkAll_mem {H : Type} {d : DataW H} : ∀ {l : List (DataW H)}, d ∈ l → Rows.uptoBulk d ≤ Rows.uptoBulkAll l
  | x :: l, h => by
    simp only [List.mem_cons] at h
    simp only [Rows.uptoBulkAll]
    rcases h with rfl | h
    · omega
    · have := bulkAll_mem h; omega
end Dp

end Go.Proofs.YtdipojfngdceoaaDoor

/- What the listed variable holds: the error that a witness is given up with. -/
namespace Go.Proofs.YtdipojfngdceoaaDoor
open Go.ChangeShapes Go.WideShapes Go.RowKit

theorem gErr : Tryd.prog.globalNamed "deponent/parts.ErrWrong" = some 0 := by kernel_rfl
theorem tErrG : (Tryd.prog.globals[0]?).map (·.type) = some 135 := by kernel_rfl
theorem starErr : "*" ++ "errors.errorString" = "*errors.errorString" := by decide
theorem rowErr (u : TypeId) (h : Tryd.prog.typeName? 3 u = some "*errors.errorString") : u = 167 :=
  typeName_ptr_named (nm := "errors.errorString") (by rw [starErr]; kernel_rfl) (by kernel_rfl) (by decide) u (by rw [starErr]; exact h)

theorem cellsErrS : Tryd.prog.cellsOf 193 = 1 := by kernel_rfl
theorem cellsStrS : Tryd.prog.cellsOf 9 = 1 := by kernel_rfl

set_option maxRecDepth 100000 in
theorem err_of_laid {W : World} (h : laidMetH Tryd.prog [("deponent/parts.ErrWrong", Rows.laid_deponent_parts_ErrWrong)] W) : ∃ eb, Dp.ErrAt W eb := by
  have h' : laidMet Tryd.prog [("deponent/parts.ErrWrong", Rows.laid_deponent_parts_ErrWrong)] W := h
  obtain ⟨ps, ⟨g0, t0, cs0, f0, p0, q0, hg0, ht0, hv0, hd0, hq, e0⟩, hnd, hrows⟩ := h'
  obtain rfl := Option.some.inj (gErr.symm.trans hg0)
  obtain rfl := Option.some.inj (tErrG.symm.trans ht0)
  have hq' : q0 = [] := hq
  subst hq'
  subst e0
  obtain ⟨l0⟩ := cs0
  have ok0 : ∀ u v, l0 = [.iface u v] → Value.okWide Tryd.prog W .any 0 u v := fun u v e => by
    subst e
    exact (hrows 0 0 (by simp [MemPlace.row])).2 u v (by simpa using World.var?_cell hg0 hv0 0)
  obtain ⟨a0, s0, rfl, hc0, hs0, hz0, rfl⟩ := errorString_of_trod Tryd.underlying135 rowErr Tryd.underlying167 Tryd.underlying193 rfl rfl Tryd.underlying9 cellsErrS cellsStrS hd0 ok0
  exact ⟨a0, by have := World.var?_cell hg0 hv0 0; simpa [Dp.ErrAt] using this⟩
end Go.Proofs.YtdipojfngdceoaaDoor
