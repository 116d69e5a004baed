/- Steps on the way: PureReach, KeepLeaf, KeepWit, PureSure, KeepSure, KeepWords, KeepSources. -/
import Derived.Test.YtdipojfngdceoabGreatDoorPack01
import Derived.Test.YtdipojfngdceoabGreatDoorPack133
import Derived.Test.YtdipojfngdceoabGreatDoorPack21
import Derived.Test.YtdipojfngdceoabGreatDoorPack31
import Derived.Test.YtdipojfngdceoabGreatDoorPack69
import Derived.Test.YtdipojfngdceoabGreatDoorPack78
import Derived.Test.YtdipojfngdceoabGreatDoorPack83
import Derived.Test.YtdipojfngdceoabGreatDoorProg
import Derived.WalkKit
import Derived.WalkSpells
import Derived.WalkLawsBesides
import Derived.Laws.IdiomStrings
/- Steps of the plain machine one behind the other, none an error. -/
namespace Go.Proofs.YtdipojfngdceoabGreatDoor
namespace Dp
/-- k steps, none of them an error or from a state that is over, lead from m to m'. -/
def Reaches : Nat → Mach → Mach → Prop
  | 0, m, m' => m' = m
  | k + 1, m, m' => m.s.over = false ∧ m.step.2 = 0 ∧ Reaches k m.step.1 m'
theorem Reaches.trans : ∀ {k j : Nat} {m m' m'' : Mach}, Reaches k m m' → Reaches j m' m'' → Reaches (k + j) m m''
  | 0, j, m, m', m'', h, h2 => by rw [Nat.zero_add]; rw [show m' = m from h] at h2; exact h2
  | k + 1, j, m, m', m'', h, h2 => by
    rw [Nat.add_right_comm]
    exact ⟨h.1, h.2.1, Reaches.trans h.2.2 h2⟩
theorem Reaches.one {m m' : Mach} (ho : m.s.over = false) (hs : m.step = (m', 0)) : Reaches 1 m m' := ⟨ho, by rw [hs], by rw [hs]; rfl⟩
theorem Reaches.run : ∀ {k n : Nat} {m m' : Mach}, Reaches k m m' → m'.s.over = true → k ≤ n → Mach.run n m = (m', k, 0)
  | 0, n, m, m', h, ho, _ => by
    have e : m' = m := h
    subst e
    cases n with
    | zero => rfl
    | succ n => unfold Mach.run; rw [if_pos ho]
  | k + 1, 0, m, m', h, ho, hk => by omega
  | k + 1, n + 1, m, m', h, ho, hk => by
    have ih := Reaches.run (n := n) h.2.2 ho (by omega)
    unfold Mach.run
    rw [h.1, if_neg (by simp), if_neg (by rw [h.2.1]; simp), ih]
/-- A number as an instruction's upper part. -/
def opw (o a b : Int) : Int := o * 67108864 + a * 8388608 + b * 1048576
theorem wrap_small (x : Int) (h : isWord x) : wrap x = x := by unfold wrap; unfold isWord at h; omega

section
variable (cells : List Int) (srcs : List (List UInt8))
theorem step_load (p : Nat) (w : Int) (i : Ins) (s : Cs) (hs : s.over = false) (hp : s.pc = p) (hp2 : p < 256) (hc : cells.getD p 0 = w) (hd : decode w = i) (ho : i.op = 13) (n : Nat) (hn : wrap (s.reg i.b + i.n) = n) (hn2 : n < 256) (v : Int) (hv : cells.getD n 0 = v) :
    Mach.step ⟨s, cells, srcs⟩ = (⟨moved s i v true, cells, srcs⟩, 0) := by
  have hcell : Mach.cell ⟨s, cells, srcs⟩ s.pc = w := by show cells.getD s.pc.toNat 0 = w; rw [hp]; exact hc
  unfold Mach.step
  rw [hcell, hd]
  simp only [hs, hp, ho, hn]
  rw [if_neg (by simp), if_neg (by omega), if_pos (by simp), if_neg (by omega), if_neg (by simp)]
  show ((⟨moved s i (cells.getD (n : Int).toNat 0) true, cells, srcs⟩ : Mach), (0 : Int)) = _
  rw [Int.toNat_natCast, hv]
theorem step_store (p : Nat) (w : Int) (i : Ins) (s : Cs) (hs : s.over = false) (hp : s.pc = p) (hp2 : p < 256) (hc : cells.getD p 0 = w) (hd : decode w = i) (ho : i.op = 14) (n : Nat) (hn : wrap (s.reg i.b + i.n) = n) (hn2 : n < 256) :
    Mach.step ⟨s, cells, srcs⟩ = (⟨moved s i 0 false, cells.set n (s.reg i.a), srcs⟩, 0) := by
  have hcell : Mach.cell ⟨s, cells, srcs⟩ s.pc = w := by show cells.getD s.pc.toNat 0 = w; rw [hp]; exact hc
  unfold Mach.step
  rw [hcell, hd]
  simp only [hs, hp, ho, hn]
  rw [if_neg (by simp), if_neg (by omega), if_pos (by simp), if_neg (by omega), if_pos trivial, Int.toNat_natCast]
theorem step_ask (p : Nat) (w : Int) (i : Ins) (s : Cs) (hs : s.over = false) (hp : s.pc = p) (hp2 : p < 256) (hc : cells.getD p 0 = w) (hd : decode w = i) (ho : i.op = 19) (l : List UInt8) (hf : findSrc srcs (s.reg i.b) = some l) :
    Mach.step ⟨s, cells, srcs⟩ = (⟨moved s i (told l (s.reg i.c)) true, cells, srcs⟩, 0) := by
  have hcell : Mach.cell ⟨s, cells, srcs⟩ s.pc = w := by show cells.getD s.pc.toNat 0 = w; rw [hp]; exact hc
  unfold Mach.step
  rw [hcell, hd]
  simp only [hs, hp, ho, hf]
  rw [if_neg (by simp), if_neg (by omega), if_neg (by simp), if_pos trivial]
theorem step_plain (p : Nat) (w : Int) (i : Ins) (s t : Cs) (hs : s.over = false) (hp : s.pc = p) (hp2 : p < 256) (hc : cells.getD p 0 = w) (hd : decode w = i) (ho : ¬ (i.op = 13 ∨ i.op = 14)) (ho2 : i.op ≠ 19) (ht : plain s i = (t, 0)) :
    Mach.step ⟨s, cells, srcs⟩ = (⟨t, cells, srcs⟩, 0) := by
  have hcell : Mach.cell ⟨s, cells, srcs⟩ s.pc = w := by show cells.getD s.pc.toNat 0 = w; rw [hp]; exact hc
  unfold Mach.step
  rw [hcell, hd]
  simp only [hs, hp, ht]
  rw [if_neg (by simp), if_neg (by omega), if_neg ho, if_neg ho2]
end
end Dp
end Go.Proofs.YtdipojfngdceoabGreatDoor

/- The small functions of the statements of their own: pick, op, set. -/
namespace Go.Proofs.YtdipojfngdceoabGreatDoor
open Go.RowKit

namespace Dp
/-- Which of n things the raw number c speaks of. -/
def pickOf (c n : Int) : Int := if c < 0 then (-(c + 1)) % n else c % n
theorem pickOf_bd (c n : Int) (hn : 0 < n) : 0 ≤ pickOf c n ∧ pickOf c n < n := by
  unfold pickOf; split <;> exact ⟨Int.emod_nonneg _ (by omega), Int.emod_lt_of_pos _ hn⟩
end Dp

set_option maxHeartbeats 400000 in
theorem keepPick (c n : Int) (w : World) (hc : -9223372036854775808 ≤ c ∧ c ≤ 9223372036854775807) (hn : 0 < n) (hn2 : n ≤ 4294967296) :
    Calls Tryz.prog 6 #[.int .i64 c, .int .i64 n] w fun e w' => e = .returned (.int .i64 (Dp.pickOf c n)) ∧ w' = w := by
  have hne : n ≠ 0 := by omega
  by_cases h : c < 0
  · have HP : Hid (Dp.pickOf c n = (-(c + 1)) % n) := by unfold Hid Dp.pickOf; rw [if_pos h]
    go_enter Tryz.func6, Tryz.ntmps6
    go_wp2
    go_ret
    exact ⟨Dp.ret_int (by rw [HP.out, ← Int.neg_tmod, Int.tmod_eq_emod_of_nonneg (by omega)]), rfl⟩
  · have HP : Hid (Dp.pickOf c n = c % n) := by unfold Hid Dp.pickOf; rw [if_neg h]
    go_enter Tryz.func6, Tryz.ntmps6
    go_wp2
    go_ret
    exact ⟨Dp.ret_int (by rw [HP.out]), rfl⟩

set_option maxHeartbeats 400000 in
theorem keepOp (o a b : Int) (w : World) (ho : 0 ≤ o ∧ o < 64) (ha : 0 ≤ a ∧ a < 8) (hb : 0 ≤ b ∧ b < 8) :
    Calls Tryz.prog 20 #[.int .i64 o, .int .i64 a, .int .i64 b] w fun e w' => e = .returned (.int .i64 (Dp.opw o a b)) ∧ w' = w := by
  have HP : Hid (Dp.opw o a b = o * 67108864 + a * 8388608 + b * 1048576) := rfl
  go_enter Tryz.func20, Tryz.ntmps20
  go_wp2
  go_ret
  exact ⟨Dp.ret_int (by rw [HP.out]), rfl⟩

set_option maxHeartbeats 400000 in
theorem keepSet (a b n : Int) (w : World) (ha : 0 ≤ a ∧ a < 8) (hb : 0 ≤ b ∧ b < 8) (hn : 0 ≤ n ∧ n < 131072) :
    Calls Tryz.prog 19 #[.int .i64 a, .int .i64 b, .int .i64 n] w fun e w' => e = .returned (.int .i64 (Dp.opw 11 a b + n)) ∧ w' = w := by
  have hb0 : 0 ≤ Dp.opw 11 a b ∧ Dp.opw 11 a b < 4294967296 := by unfold Dp.opw; omega
  go_enter Tryz.func19, Tryz.ntmps19
  go_wp2_with fail
  refine (keepOp 11 a b w (by omega) ha hb).mono ?_
  rintro e w2 ⟨rfl, rfl⟩
  generalize hX : Dp.opw 11 a b = X at *
  have HX := Hid.mk_ hX
  clear hX
  go_wp2
  go_ret
  exact ⟨Dp.ret_int (by rw [HX.out]; omega), rfl⟩

end Go.Proofs.YtdipojfngdceoabGreatDoor

/- A machine's own witness, shown to Check. -/
namespace Go.Proofs.YtdipojfngdceoabGreatDoor
open Go.RowKit
namespace Dp
theorem shown_small (m : Mach) (h : ∀ l ∈ m.srcs, l.length ≤ 200) : (shown m).length ≤ 300 := by
  unfold shown coreStep
  by_cases hov : m.s.over = true
  · simp [hov]
  have hov' : m.s.over = false := by simpa using hov
  simp only [hov', Bool.false_eq_true, if_false]
  by_cases hpc : m.s.pc ≥ 256
  · simp [recordMemo, hpc]
  have e1 : recordMemo.load (m.cells, m.srcs, []) m.s.pc = some ((m.cells, m.srcs, [] ++ proof m.cells m.s.pc.toNat), m.cell m.s.pc, 0) := by simp [recordMemo, hpc, Mach.cell]
  simp only [e1, ne_eq, not_true_eq_false, if_false]
  generalize hi : decode (m.cell m.s.pc) = i
  have hp : ([] ++ proof m.cells m.s.pc.toNat).length = 20 := by rw [List.nil_append, proof_length]
  generalize [] ++ proof m.cells m.s.pc.toNat = P at *
  by_cases h13 : i.op = 13
  · by_cases hn : wrap (m.s.reg i.b + i.n) ≥ 256
    · simp [perform, h13, recordMemo, hn, hp]
    · simp [perform, h13, recordMemo, hn, hp, proof_length]
  by_cases h14 : i.op = 14
  · by_cases hn : wrap (m.s.reg i.b + i.n) ≥ 256
    · simp [perform, h14, recordMemo, hn, hp]
    · simp [perform, h14, recordMemo, hn, hp, proof_length]
  by_cases h19 : i.op = 19
  · cases hf : findSrc m.srcs (m.s.reg i.b) with
    | none => simp [perform, h19, recordMemo, hf, hp]
    | some l =>
      have hl : l.length ≤ 200 := h l (List.mem_of_find?_eq_some hf)
      simp [perform, h19, recordMemo, hf, hp]
      omega
  · simp only [perform, h13, h14, h19, if_false]
    split
    · simp
    · rename_i h
      by_cases hq : (still m.s i).2 = 0
      · simp [hq] at h
        rw [← h]; simp [hp]
      · simp [hq] at h
        rw [← h]; simp [hp]
theorem witness_small (m : Mach) (h : m.Ok) : (witnessOf m).length ≤ 400 := by
  unfold witnessOf
  split
  · simp
  · have := shown_small m h.src
    rw [List.length_append, label_length _ _ h.s.len]; omega
theorem own_cutting {w : World} {e : TypeId} {v : Value} {l : List UInt8} (h : Own w e v (vals l)) : Cutting w v l := by
  rcases h with ⟨rfl, h2⟩ | ⟨g, tail, rfl, h2, h3⟩
  · have : l = [] := by cases l with
      | nil => rfl
      | cons a b => simp [vals] at h2
    subst this
    exact ⟨none, 0, rfl, Nat.le_refl _, by simp [maxLen], fun e => absurd rfl e⟩
  · rw [vals_length] at h3
    refine ⟨some ⟨g, 0, none⟩, l.length + tail.length, by rw [vals_length], by omega, h3, fun _ => ⟨g, 0, rfl, fun j hj => ?_⟩⟩
    rw [h2.cell, List.getElem?_append_left (by rw [vals_length]; omega)]
    simp [vals, hj]
/-- What Check says of a machine's own witness. -/
def told1 (m : Mach) : Int := if m.step.2 = 0 then stamp m.step.1.s (root m.step.1.cells) else 0
def told2 (m : Mach) : Int := if m.step.2 = 0 then 0 else 6
theorem checked_own (m : Mach) (h : m.Ok) : checked (stamp m.s (root m.cells)) (witnessOf m) = (told1 m, told2 m) := by
  unfold witnessOf told1 told2
  by_cases h0 : m.step.2 = 0
  · rw [if_neg (by simp [h0]), if_pos h0, if_pos h0]
    exact own_believed m h h0
  · rw [if_pos h0, if_neg h0, if_neg h0]
    simp [checked, heard, toldBy]
end Dp

theorem keepCheck (w : World) (eb : Addr) (m : Dp.Mach) (ty : TypeId) (v : Value) (he : Dp.ErrAt w eb) (hm : m.Ok) (ho : Dp.Own w ty v (Dp.vals (Dp.witnessOf m))) :
    Calls Tryz.prog 23 #[.int .i64 (Dp.stamp m.s (Dp.root m.cells)), v] w fun e w' => e = .returned (.tuple #[.int .i64 (Dp.told1 m), .int .i64 (Dp.told2 m)]) ∧ Dp.Keeps (fun _ => False) w w' := by
  have hc := Dp.own_cutting ho
  obtain ⟨ad, cap, rfl, _⟩ := hc
  have h := progCheck w eb (Dp.stamp m.s (Dp.root m.cells)) ad cap (Dp.witnessOf m) he (Dp.own_cutting ho) (by have := Dp.witness_small m hm; omega)
  rw [Dp.checked_own m hm] at h
  exact h

theorem progSum1 (v : Value) (ls : List (List UInt8)) (w : World) (hv : Dp.Parts w v ls) :
    Calls Tryz.prog 21 #[v] w fun e w' => e = .returned (.int .i64 (Dp.sum ls.flatten)) ∧ w' = w := by
  go_enter Tryz.func21, Tryz.ntmps21
  go_wp2_with (go_at_call 39; refine (digSum _ ls _ hv).mono ?_; rintro e w' ⟨rfl, rfl⟩)
  go_ret
  exact ⟨rfl, rfl⟩
end Go.Proofs.YtdipojfngdceoabGreatDoor

/- The document's second example: two steps, told outright. -/
namespace Go.Proofs.YtdipojfngdceoabGreatDoor
namespace Dp
def sureProg : List Int := [opw 11 1 0 + 5, opw 0 1 0]
def sure0 : Mach := newMach sureProg []
def sure1 : Mach := ⟨⟨1, 1, 0, false, [0, 5, 0, 0, 0, 0, 0, 0]⟩, sure0.cells, []⟩
def sure2 : Mach := ⟨⟨1, 2, 5, true, [0, 5, 0, 0, 0, 0, 0, 0]⟩, sure0.cells, []⟩
theorem sure_ok : newOk sureProg [] = true := by decide
theorem sure_step0 : sure0.step = (sure1, 0) :=
  step_plain sure0.cells [] 0 _ ⟨11, 1, 0, 0, 5⟩ zeroCs _ rfl rfl (by omega) (show sure0.cells.getD 0 0 = opw 11 1 0 + 5 from rfl) (by rfl) (by decide) (by decide) (by rfl)
theorem sure_step1 : sure1.step = (sure2, 0) :=
  step_plain sure0.cells [] 1 _ ⟨0, 1, 0, 0, 0⟩ sure1.s _ rfl rfl (by omega) (show sure0.cells.getD 1 0 = opw 0 1 0 from rfl) (by rfl) (by decide) (by decide) (by rfl)
set_option maxRecDepth 100000 in
theorem sure_turn : decide (stamp sure1.s (root sure1.cells) = stamp sure0.s (root sure0.cells)) = false := by
  decide +kernel
theorem sure_sum : sum [0] = 1800 := by decide
end Dp
end Go.Proofs.YtdipojfngdceoabGreatDoor

/- The document's second example, walked: sure answers true. -/
namespace Go.Proofs.YtdipojfngdceoabGreatDoor
open Go.RowKit

namespace Dp
theorem ints_row {w : World} {g cap : Nat} {e : TypeId} {xs : List Int} {post : List Value} (h : Row w g e (regCells xs ++ post)) (hl : xs.length ≤ 1048576) : Ints w (.slice (some ⟨g, 0, none⟩) xs.length cap) xs := by
  refine ⟨g, 0, some ⟨g, 0, none⟩, cap, rfl, hl, fun _ => ⟨rfl, h.lt⟩, fun i hi => ?_⟩
  rw [h.cell, Nat.zero_add, List.getElem?_append_left (by simp [regCells]; exact hi)]
  simp [regCells, hi]
theorem parts_nil (w : World) : Parts w (.slice none 0 0) [] := ⟨0, 0, none, 0, rfl, by simp [maxLen], fun e => absurd rfl e, fun i hi => absurd hi (by simp)⟩
theorem sure_told1 : decide (told1 sure0 = stamp sure0.s (root sure0.cells)) = false := by
  unfold told1
  rw [sure_step0, if_pos rfl]
  exact sure_turn
theorem sure_told2 : told2 sure0 = 0 := by
  unfold told2; rw [sure_step0, if_pos rfl]
set_option maxRecDepth 100000 in
theorem sure_len : (witnessOf sure0).length = 67 := by
  unfold witnessOf
  rw [sure_step0, if_neg (by simp), List.length_append, label_length _ _ rfl]
  have : (shown sure0).length = 20 := by decide +kernel
  omega
end Dp

set_option maxRecDepth 100000 in
set_option maxHeartbeats 1000000 in
theorem keepSure (w : World) (eb : Addr) (he : Dp.ErrAt w eb) : Calls Tryz.prog 5 #[] w fun e w' => e = .returned (.bool true) ∧ Dp.Keeps (fun _ => False) w w' := by
  go_enter Tryz.func5, Tryz.ntmps5
  go_wp2_with fail
  refine (keepSet 1 0 5 _ (by omega) (by omega) (by omega)).mono ?_
  rintro e w1 ⟨rfl, rfl⟩
  go_wp2_with fail
  refine (keepOp 0 1 0 _ (by omega) (by omega) (by omega)).mono ?_
  rintro e w2 ⟨rfl, rfl⟩
  go_wp2_with fail
  have k1 : Dp.Keeps (fun _ => False) w2 (w2.alloc (.cells #[.int .i64 (Dp.opw 11 1 0 + 5), .int .i64 (Dp.opw 0 1 0)] 3)) := (Dp.Keeps.refl _ _).alloc _
  have hI : Dp.Ints (w2.alloc (.cells #[.int .i64 (Dp.opw 11 1 0 + 5), .int .i64 (Dp.opw 0 1 0)] 3)) (.slice (some ⟨w2.heap.size, 0, none⟩) 2 2) Dp.sureProg :=
    Dp.ints_row (xs := Dp.sureProg) (post := []) (by rw [List.append_nil]; exact Dp.Row.allocNew w2 3 (Dp.regCells Dp.sureProg)) (by simp [Dp.sureProg])
  refine (progNew _ _ _ Dp.sureProg [] hI (Dp.parts_nil _) Dp.sure_ok).mono ?_
  rintro e w3 ⟨⟨b, vs, G, rfl, hb, hG, hM⟩, k3⟩
  have hb' : w2.heap.size ≤ b := by have := k1.size; omega
  have HG' : Hid (∀ q, G q → w2.heap.size ≤ q) := fun q hq => by have := k1.size; have := hG q hq; omega
  have HM := Hid.mk_ hM
  have HK3 := Hid.mk_ (k1.trans k3)
  have he3 := Hid.mk_ (he.keep HK3.out)
  have HE := Hid.mk_ he
  clear hM hI hG hb k1 k3 he
  go_wp2_with fail
  have hP : Dp.Parts ((w3.alloc (.cells #[.int .u8 0] 5)).alloc (.cells #[.slice (some ⟨w3.heap.size, 0, none⟩) 1 1] 35)) (.slice (some ⟨w3.heap.size + 1, 0, none⟩) 1 1) [[0]] := by
    have r1 : Dp.Row (w3.alloc (.cells #[.int .u8 0] 5)) w3.heap.size 5 (Dp.vals [0]) := Dp.Row.allocNew w3 5 (Dp.vals [0])
    have r2 := r1.allocOld (.cells #[.slice (some ⟨w3.heap.size, 0, none⟩) 1 1] 35)
    have r3 : Dp.Row ((w3.alloc (.cells #[.int .u8 0] 5)).alloc (.cells #[.slice (some ⟨w3.heap.size, 0, none⟩) 1 1] 35)) (w3.alloc (.cells #[.int .u8 0] 5)).heap.size 35 [.slice (some ⟨w3.heap.size, 0, none⟩) 1 1] := Dp.Row.allocNew _ 35 [.slice (some ⟨w3.heap.size, 0, none⟩) 1 1]
    rw [show (w3.alloc (.cells #[.int .u8 0] 5)).heap.size = w3.heap.size + 1 by simp] at r3
    refine ⟨w3.heap.size + 1, 0, _, 1, rfl, by simp [maxLen], fun _ => rfl, fun i hi => ?_⟩
    obtain rfl : i = 0 := by simp at hi; exact hi
    refine ⟨_, r3.cell 0, w3.heap.size, 0, _, 1, rfl, by simp [maxLen], fun _ => rfl, fun j hj => ?_⟩
    obtain rfl : j = 0 := by simp at hj; exact hj
    exact r2.cell 0
  refine (progSum1 _ _ _ hP).mono ?_
  rintro e w4 ⟨rfl, ew4⟩
  have k34 : Dp.Keeps (fun _ => False) w3 w4 := by rw [ew4]; exact ((Dp.Keeps.refl _ _).alloc _).alloc _
  have hs : Dp.sum [[(0 : UInt8)]].flatten = 1800 := Dp.sure_sum
  rw [hs]
  have HM4 := Hid.mk_ (HM.out.keep k34 (fun e => e) (fun _ _ e => e))
  have HK4 := Hid.mk_ (HK3.out.trans k34)
  clear hs hP ew4 k34 HM HK3 he3
  go_wp2_with fail
  refine (progMStamp w4 b G vs _ HM4.out).mono ?_
  rintro e w5 ⟨rfl, k5⟩
  have HM5 := Hid.mk_ (HM4.out.keep k5 (fun e => e) (fun _ _ e => e))
  have HK5 := Hid.mk_ (HK4.out.trans k5)
  clear HM4 HK4 k5
  go_wp2_with fail
  refine (progMWitness w5 b G vs _ HM5.out).mono ?_
  rintro e w6 ⟨v, rfl, ho, hf, k6⟩
  have HM6 := Hid.mk_ (HM5.out.keep k6 (fun e => e) (fun _ _ e => e))
  have HK6 := Hid.mk_ (HK5.out.trans k6)
  have HO := Hid.mk_ ho
  have HF := Hid.mk_ hf
  obtain ⟨va, vc, ev⟩ := ho.isSlice
  rw [Dp.vals_length, show (Dp.witnessOf (Dp.newMach Dp.sureProg [])).length = 67 from Dp.sure_len] at ev
  subst ev
  rw [show (Dp.newMach Dp.sureProg []).step.2 = 0 by rw [show Dp.newMach Dp.sureProg [] = Dp.sure0 from rfl, Dp.sure_step0]]
  clear HM5 HK5 k6 ho hf
  go_wp2_with fail
  refine (keepCheck w6 eb _ 5 _ (HE.out.keep HK6.out) HM6.out.ok HO.out).mono ?_
  rintro e w7 ⟨rfl, k7⟩
  have HM7 := Hid.mk_ (HM6.out.keep k7 (fun e => e) (fun _ _ e => e))
  have HK7 := Hid.mk_ (HK6.out.trans k7)
  rw [show Dp.told2 (Dp.newMach Dp.sureProg []) = 0 from Dp.sure_told2]
  have hne : Dp.told1 (Dp.newMach Dp.sureProg []) ≠ Dp.stamp (Dp.newMach Dp.sureProg []).s (Dp.root (Dp.newMach Dp.sureProg []).cells) := of_decide_eq_false Dp.sure_told1
  generalize Dp.told1 (Dp.newMach Dp.sureProg []) = T1 at *
  generalize Dp.stamp (Dp.newMach Dp.sureProg []).s (Dp.root (Dp.newMach Dp.sureProg []).cells) = T0 at *
  clear HM6 HK6 k7 HO HF
  go_wp2_with fail
  refine (progMStep w7 b G vs _ HM7.out).mono ?_
  rintro e w8 ⟨rfl, k8, hM8⟩
  rw [show (Dp.newMach Dp.sureProg []).step = (Dp.sure1, 0) from Dp.sure_step0] at hM8 ⊢
  have HM8 := Hid.mk_ hM8
  have HK8 : Hid (Dp.Keeps (fun _ => False) w2 w8) := HK7.out.next k8 (fun q hq e => by omega)
  clear HM7 HK7 k8 hM8
  go_wp2_with fail
  refine (progMStep w8 b G vs _ HM8.out).mono ?_
  rintro e w9 ⟨rfl, k9, hM9⟩
  rw [Dp.sure_step1] at hM9 ⊢
  have HM9 := Hid.mk_ hM9
  have HK9 : Hid (Dp.Keeps (fun _ => False) w2 w9) := HK8.out.next k9 (fun q hq e => by omega)
  clear HM8 HK8 k9 hM9
  go_wp2_with fail
  refine (progMLook w9 b G vs _ HM9.out).mono ?_
  rintro e w10 ⟨rfl, k10⟩
  have HK10 := Hid.mk_ (HK9.out.trans k10)
  clear HM9 HK9 k10
  rw [show Dp.sure2.s = ⟨1, 2, 5, true, [0, 5, 0, 0, 0, 0, 0, 0]⟩ from rfl]
  generalize Dp.root Dp.sure2.cells = R at *
  go_wp2_with (refine Dp.wpList_alloc_row rfl 69 rfl _ zeroState ?_)
  intro w11 r11 z11 k11
  have HR11 := Hid.mk_ (Dp.row_nil r11)
  go_wp2_with (refine Dp.wpList_store_in rfl 69 _ _ rfl w10.heap.size 0 rfl (Dp.stCells ⟨1, 2, 5, true, [0, 5, 0, 0, 0, 0, 0, 0]⟩ R) rfl 69 [] _ [] HR11.out rfl rfl (by rw [sizeState]; rfl) (Dp.stCells_one _ _) ?_)
  intro w12 r12 z12 k12
  have r12' : Dp.Row w12 w10.heap.size 69 (Dp.stCells ⟨1, 2, 5, true, [0, 5, 0, 0, 0, 0, 0, 0]⟩ R) := by simpa using r12
  have a1 : w12.cell? ⟨w10.heap.size, 1, none⟩ = some (.int .i64 2) := r12'.cell 1
  have a2 : w12.cell? ⟨w10.heap.size, 2, none⟩ = some (.int .i64 5) := r12'.cell 2
  have a3 : w12.cell? ⟨w10.heap.size, 3, none⟩ = some (.bool true) := r12'.cell 3
  have HK12 : Hid (Dp.Keeps (fun _ => False) w2 w12) := HK10.out.trans (k11.next k12 (fun k hk e => by omega))
  clear r11 r12 r12' HR11 k11 k12 z11 z12 HK10
  have hb1 : (T1 != T0) = true := by simpa using hne
  go_wp2
  go_ret
  exact ⟨rfl, HK12.out⟩
end Go.Proofs.YtdipojfngdceoabGreatDoor

/- The machine of raw numbers: its words. -/
namespace Go.Proofs.YtdipojfngdceoabGreatDoor
open Go.RowKit

namespace Dp
/-- The slice value v holds just these numbers, however many. -/
def IntsW (w : World) (v : Value) (l : List Int) : Prop :=
  ∃ b o ad cap, v = .slice ad l.length cap ∧ l.length ≤ maxLen ∧ (l ≠ [] → ad = some ⟨b, o, none⟩ ∧ b < w.heap.size) ∧ ∀ i (h : i < l.length), w.cell? ⟨b, o + i, none⟩ = some (.int .i64 l[i])
/-- The slice value v holds just these texts, however many. -/
def TextsW (w : World) (v : Value) (l : List (List UInt8)) : Prop :=
  ∃ b o ad cap, v = .slice ad l.length cap ∧ l.length ≤ maxLen ∧ (l ≠ [] → ad = some ⟨b, o, none⟩ ∧ b < w.heap.size) ∧ ∀ i (h : i < l.length), l[i].length ≤ maxLen ∧ w.cell? ⟨b, o + i, none⟩ = some (.string (str l[i]))
theorem IntsW.still {w w' : World} {v : Value} {l : List Int} (h : IntsW w v l) (k : Keeps (fun _ => False) w w') : IntsW w' v l := by
  obtain ⟨b, o, ad, cap, h1, h2, h3, h4⟩ := h
  exact ⟨b, o, ad, cap, h1, h2, fun e => ⟨(h3 e).1, Nat.lt_of_lt_of_le (h3 e).2 k.size⟩, fun j hj => (k.cell (p := ⟨b, o + j, none⟩) (cell_lt (h4 j hj)) (fun e => e)).trans (h4 j hj)⟩
theorem TextsW.still {w w' : World} {v : Value} {l : List (List UInt8)} (h : TextsW w v l) (k : Keeps (fun _ => False) w w') : TextsW w' v l := by
  obtain ⟨b, o, ad, cap, h1, h2, h3, h4⟩ := h
  exact ⟨b, o, ad, cap, h1, h2, fun e => ⟨(h3 e).1, Nat.lt_of_lt_of_le (h3 e).2 k.size⟩, fun j hj => ⟨(h4 j hj).1, (k.cell (p := ⟨b, o + j, none⟩) (cell_lt (h4 j hj).2) (fun e => e)).trans (h4 j hj).2⟩⟩
def wordsRaw (raw : List Int) : List Int := (raw.take 256).map (pickOf · 4294967296)
def wordsTo (raw : List Int) (k : Nat) : List Int := (raw.take k).map (pickOf · 4294967296)
theorem wordsTo_succ (raw : List Int) (k : Nat) (h : k < raw.length) : regCells (wordsTo raw k) ++ [.int .i64 (pickOf raw[k] 4294967296)] = regCells (wordsTo raw (k + 1)) := by
  unfold wordsTo
  rw [List.take_succ_eq_append_getElem h]
  simp only [regCells, List.map_append, List.map_cons, List.map_nil]
theorem wordsTo_length (raw : List Int) (k : Nat) (h : k ≤ raw.length) : (regCells (wordsTo raw k)).length = k := by
  simp [regCells, wordsTo]; omega
theorem wordsTo_all (raw : List Int) (k : Nat) (h : k = raw.length ∨ k = 256) (hk : k ≤ 256) : wordsTo raw k = wordsRaw raw := by
  unfold wordsTo wordsRaw
  rcases h with h | h
  · rw [List.take_of_length_le (by omega), List.take_of_length_le (by omega)]
  · rw [h]
theorem cell_one (w : World) (e : TypeId) (v : Value) (j : Nat) (u : Value) (h : [v][j]? = some u) : (w.alloc (.cells #[v] e)).cell? ((⟨w.heap.size, 0, none⟩ : Addr).add j) = some u := by
  rw [add_zero_off]
  exact ((Row.allocNew w e [v]).cell j).trans h
end Dp

set_option maxRecDepth 100000 in
set_option maxHeartbeats 1000000 in
theorem keepWords (w : World) (v : Value) (raw : List Int) (hW : Dp.IntsW w v raw) (h64 : ∀ x ∈ raw, -9223372036854775808 ≤ x ∧ x ≤ 9223372036854775807) :
    Calls Tryz.prog 25 #[v] w fun e w' => ∃ v', e = .returned v' ∧ Dp.Own w' 3 v' (Dp.regCells (Dp.wordsRaw raw)) ∧ (∀ g, v'.ownBlock = some g → w.heap.size ≤ g) ∧ Dp.Keeps (fun _ => False) w w' := by
  obtain ⟨b, o, ad, cap, rfl, hlen, hne, hc⟩ := hW
  have hlen' : raw.length ≤ 9223372036854775807 := by unfold maxLen at hlen; omega
  clear hlen
  have HC := Hid.mk_ hc
  have HN := Hid.mk_ hne
  have H64 := Hid.mk_ h64
  clear hc hne h64
  go_enter Tryz.func25, Tryz.ntmps25
  go_wp2
  go_loopw [3, 4] (fun vl i wr => ∃ k : Nat, k ≤ raw.length ∧ k ≤ 256 ∧ i = .int .i64 k ∧ Hid (Dp.Own wr 3 vl (Dp.regCells (Dp.wordsTo raw k))) ∧ Hid (∀ g, vl.ownBlock = some g → w.heap.size ≤ g) ∧ Dp.Keeps (fun _ => False) w wr) (fun _ i _ => raw.length - (intOf i).toNat)
  case atStart => exact ⟨0, Nat.zero_le _, Nat.zero_le _, rfl, Dp.Own.nil _ _, fun g hg => by simp [Value.ownBlock] at hg, Dp.Keeps.refl _ _⟩
  case round =>
    obtain ⟨k, hk, hk2, rfl, HO, HF, kk⟩ := hrel
    by_cases hlt : k < raw.length ∧ k < 256
    · obtain ⟨hlt, hlt2⟩ := hlt
      obtain ⟨rfl, hb⟩ := HN.out (by intro e; simp [e] at hlt)
      have ck : wr.cell? ⟨b, o + k, none⟩ = some (.int .i64 raw[k]) := (kk.cell (p := ⟨b, o + k, none⟩) hb (fun e => e)).trans (HC.out k hlt)
      have h64 := H64.out _ (List.getElem_mem hlt)
      have HSU := Hid.mk_ (Dp.wordsTo_succ raw k hlt)
      have HL := Hid.mk_ (Dp.wordsTo_length raw k hk)
      generalize raw[k] = x at *
      go_wp2_with fail
      refine (keepPick x 4294967296 _ h64 (by omega) (by omega)).mono ?_
      rintro e w2 ⟨rfl, rfl⟩
      clear ck h64
      have HK := Hid.mk_ kk
      clear kk
      have kal := (Dp.Keeps.refl (fun _ => False) w2).alloc (.cells #[.int .i64 (Dp.pickOf x 4294967296)] 3)
      have NW : Hid (∀ j u, [Value.int .i64 (Dp.pickOf x 4294967296)][j]? = some u → (w2.alloc (.cells #[.int .i64 (Dp.pickOf x 4294967296)] 3)).cell? ((⟨w2.heap.size, 0, none⟩ : Addr).add j) = some u) := fun j u h => Dp.cell_one w2 _ _ j u h
      have HO2 := Hid.mk_ (HO.out.keep kal (fun _ _ e => e))
      have HK2 := Hid.mk_ (HK.out.trans kal)
      clear kal
      go_wp2_with (at_builtin; refine Dp.wpList_append_Own rfl _ _ 22 rfl 3 (.int .i64 0) 8 Tryz.underlying22 infoInt rfl u3 (Dp.regCells (Dp.wordsTo raw k)) rfl HO2.out ⟨w2.heap.size, 0, none⟩ 1 1 [.int .i64 (Dp.pickOf x 4294967296)] rfl rfl NW.out (fun x hx => by simp at hx; subst hx; rfl) (by omega) (by rw [HL.out]; unfold maxLen; omega) (by rw [HL.out]; omega) ?_)
      intro v6 w6 o6 k6 s6
      rw [HSU.out] at o6
      have HO6 := Hid.mk_ o6
      have HF6 : Hid (∀ g, v6.ownBlock = some g → w.heap.size ≤ g) := by
        intro g hg
        rcases s6.out with hh | hh
        · exact HF.out g (by rw [← hh.1]; exact hg)
        · rw [hh.1] at hg
          have := HK2.out.size
          simp at hg this
          omega
      have HK6 : Hid (Dp.Keeps (fun _ => False) w w6) := HK2.out.next k6 (fun q hq e => by have := HF.out q e; omega)
      clear o6 k6 s6
      go_wp2
      go_roundw
      case rel => exact ⟨k + 1, by omega, by omega, by go_num, HO6, HF6, HK6.out⟩
      case measure => simp [intOf]; omega
    · have hk3 : k = raw.length ∨ k = 256 := by omega
      have HE := Hid.mk_ (Dp.wordsTo_all raw k hk3 hk2)
      by_cases hlt : k < raw.length
      · have h256 : ¬ k < 256 := by omega
        go_wp2
        go_ret
        exact ⟨_, rfl, by rw [← HE.out]; exact HO.out, HF.out, kk⟩
      · go_wp2
        go_ret
        exact ⟨_, rfl, by rw [← HE.out]; exact HO.out, HF.out, kk⟩
end Go.Proofs.YtdipojfngdceoabGreatDoor

/- The machine of raw texts: its sources. -/
namespace Go.Proofs.YtdipojfngdceoabGreatDoor
open Go.RowKit

namespace Dp
/-- The slice value v lies at the head of a row, not older than B, that a text was turned into. -/
def Conv (B : Nat) (w : World) (v : Value) (l : List UInt8) : Prop :=
  ∃ g C fr cap, v = .slice (some ⟨g, 0, none⟩) l.length cap ∧ B ≤ g ∧ w.heap[g]? = some (.cells C 5 fr) ∧ l.length ≤ cap ∧ cap ≤ maxLen ∧ ∀ j (h : j < l.length), C[j]? = some (.int .u8 (l[j].toNat : Int))
theorem cell_cells {w : World} {g : Nat} {C : Array Value} {t : TypeId} {fr : Nat × Nat} (h : w.heap[g]? = some (.cells C t fr)) (j : Nat) : w.cell? ⟨g, j, none⟩ = C[j]? := by
  unfold World.cell?
  simp [h]
theorem Conv.keep {S : Nat → Prop} {B : Nat} {w w' : World} {v : Value} {l : List UInt8} (h : Conv B w v l) (k : Keeps S w w') (hs : ∀ g C fr, w.heap[g]? = some (.cells C 5 fr) → ¬ S g) : Conv B w' v l := by
  obtain ⟨g, C, fr, cap, h1, h2, h3, h4⟩ := h
  exact ⟨g, C, fr, cap, h1, h2, (k.block g (Array.getElem?_eq_some_iff.1 h3).1 (hs g C fr h3)).trans h3, h4⟩
theorem Conv.cutting {B : Nat} {w : World} {v : Value} {l : List UInt8} (h : Conv B w v l) : Cutting w v l := by
  obtain ⟨g, C, fr, cap, h1, h2, h3, h4, h5, h6⟩ := h
  refine ⟨_, cap, h1, h4, h5, fun _ => ⟨g, 0, rfl, fun j hj => ?_⟩⟩
  rw [Nat.zero_add, cell_cells h3]
  exact h6 j hj
theorem wpList_toBytes {P : Program} {w : World} {ops : Array Oper} {rest : List Oper} {o : Oper} {a : Act} {Q : Exit → Act → World → Prop} (hgd : o.guard = none) (x : Operand) (sT dT : TypeId)
    (ho : o.op = .convert sT dT x) (hs : P.underlying sT = some .string) (hd : P.underlying dT = some (.slice 5)) (he : P.underlying 5 = some (.int .u8)) (l : List UInt8) (hx : a.eval x = .string (str l)) (hl : l.length ≤ maxLen)
    (hK : ∀ cap w', Conv w.heap.size w' (.slice (some ⟨w.heap.size, 0, none⟩) l.length cap) l → w'.heap.size = w.heap.size + 1 → Keeps (fun _ => False) w w' → wpList P ops Q rest (a.put o.dst (.slice (some ⟨w.heap.size, 0, none⟩) l.length cap)) w') : wpList P ops Q (o :: rest) a w := by
  refine wpList_plain hgd fun K hK' => ?_
  have hrun := run_bytes_of_string (P := P) w sT dT 5 (str l) hs hd he
  rw [str_size] at hrun
  unfold Oper.wp
  simp only [execOp, ho, hx, hrun, Sem.run_bind, Result.andThen]
  have hge := grownCap_ge w l.length 0 5
  have hle := grownCap_le_maxLen w l.length 0 5 hl
  generalize grownCap w l.length 0 5 = cap at *
  refine hK' _ _ (hK cap _ ⟨w.heap.size, _, _, cap, rfl, Nat.le_refl _, heap_alloc_new w.drew _, hge, hle, fun j hj => ?_⟩ (by simp) ((Keeps.refl _ _).drew.alloc _))
  unfold bytesRow
  rw [Array.getElem?_append_left (by simp [str]; exact hj)]
  simp [str, hj]
def cut200 (l : List UInt8) : List UInt8 := l.take 200
def srcsRaw (texts : List (List UInt8)) : List (List UInt8) := (texts.take 8).map cut200
/-- The first k sources, turned. -/
structure Turned (B : Nat) (w : World) (texts : List (List UInt8)) (k : Nat) (vs : Value) (vls : List Value) : Prop where
  own : Own w 93 vs vls
  new : ∀ q, vs.ownBlock = some q → B ≤ q
  len : vls.length = k
  each : ∀ i (h : i < vls.length) (h2 : i < texts.length), Conv B w vls[i] (cut200 texts[i])
theorem Own.not_u8 {w : World} {v : Value} {xs : List Value} (h : Own w 93 v xs) : ∀ g C fr, w.heap[g]? = some (.cells C 5 fr) → ¬ v.ownBlock = some g := by
  intro g C fr hg hv
  rcases h with ⟨rfl, _⟩ | ⟨g1, t1, rfl, r1, _⟩
  · simp [Value.ownBlock] at hv
  · simp [Value.ownBlock] at hv
    subst hv
    unfold Row at r1
    rw [hg] at r1
    simp at r1
theorem Turned.parts {B : Nat} {w : World} {texts : List (List UInt8)} {k : Nat} {vs : Value} {vls : List Value} (h : Turned B w texts k vs vls) (hk : k = texts.length ∨ k = 8) (hk8 : k ≤ 8) (hkl : k ≤ texts.length) : Parts w vs (srcsRaw texts) := by
  have hl : (srcsRaw texts).length = k := by simp [srcsRaw]; omega
  rcases h.own with ⟨hv, hx⟩ | ⟨g, tail, hv, hr, hle⟩
  · have h0 : k = 0 := by have := h.len; rw [hx] at this; simp at this; omega
    have hz : srcsRaw texts = [] := List.length_eq_zero_iff.1 (by omega)
    rw [hz]
    exact ⟨0, 0, none, 0, hv, by simp [maxLen], fun e => absurd rfl e, fun i hi => absurd hi (by simp)⟩
  · have hlen := h.len
    refine ⟨g, 0, some ⟨g, 0, none⟩, _, by rw [hv, hlen, hl], by unfold maxLen; omega, fun _ => rfl, fun i hi => ?_⟩
    have hi' : i < vls.length := by omega
    have hi2 : i < texts.length := by omega
    refine ⟨vls[i], ?_, ?_⟩
    · rw [hr.cell, Nat.zero_add, List.getElem?_append_left hi', List.getElem?_eq_getElem hi']
    · have := (h.each i hi' hi2).cutting.bytes
      have e : (srcsRaw texts)[i] = cut200 texts[i] := by simp [srcsRaw]
      rw [e]; exact this
theorem Turned.step {B : Nat} {w w1 w2 : World} {texts : List (List UInt8)} {k : Nat} {vs v5 v' : Value} {vls : List Value} (h : Turned B w texts k vs vls) (hk : k < texts.length) (k1 : Keeps (fun _ => False) w w1) (hc : Conv B w1 v5 (cut200 texts[k]))
    (o6 : Own w2 93 v' (vls ++ [v5])) (k6 : Keeps (fun q => vs.ownBlock = some q) w1 w2) (hf : v'.ownBlock = vs.ownBlock ∨ ∀ q, v'.ownBlock = some q → B ≤ q) : Turned B w2 texts (k + 1) v' (vls ++ [v5]) := by
  have ho1 := h.own.keep k1 (fun _ _ e => e)
  refine ⟨o6, fun q hq => ?_, by rw [List.length_append, h.len]; rfl, fun i hi hi2 => ?_⟩
  · rcases hf with e | e
    · rw [e] at hq; exact h.new q hq
    · exact e q hq
  · by_cases hik : i < vls.length
    · rw [List.getElem_append_left hik]
      exact ((h.each i hik hi2).keep k1 (fun _ _ _ _ e => e)).keep k6 ho1.not_u8
    · have hieq : i = k := by have := h.len; rw [List.length_append, List.length_cons, List.length_nil] at hi; omega
      subst hieq
      have e0 : (vls ++ [v5])[i] = v5 := by
        rw [List.getElem_append_right (by have := h.len; omega)]
        simp [h.len]
      rw [e0]
      exact hc.keep k6 ho1.not_u8
theorem str_cut (l : List UInt8) : (str l).extract 0 200 = str (cut200 l) := by
  apply ByteArray.ext
  simp [str, cut200]
theorem cut200_small (l : List UInt8) (h : ¬ 200 < l.length) : cut200 l = l := List.take_of_length_le (by omega)
theorem cut200_length (l : List UInt8) : (cut200 l).length ≤ 200 := by simp [cut200]; omega
end Dp
theorem infoSource2 : (Tryz.prog.info? 93).map (fun i => (i.zero, i.size, i.bytes)) = some (some (.slice none 0 0), 1, 24) := by kernel_rfl

set_option maxRecDepth 100000 in
set_option maxHeartbeats 1000000 in
theorem keepSources (w : World) (v : Value) (texts : List (List UInt8)) (hW : Dp.TextsW w v texts) :
    Calls Tryz.prog 26 #[v] w fun e w' => ∃ v', e = .returned v' ∧ Dp.Parts w' v' (Dp.srcsRaw texts) ∧ Dp.Keeps (fun _ => False) w w' := by
  obtain ⟨b, o, ad, cap, rfl, hlen, hne, hc⟩ := hW
  have hlen' : texts.length ≤ 9223372036854775807 := by unfold maxLen at hlen; omega
  have HC := Hid.mk_ hc
  have HN := Hid.mk_ hne
  clear hc hne hlen
  go_enter Tryz.func26, Tryz.ntmps26
  go_wp2
  go_loopw [3, 4, 5] (fun vl i _ wr => ∃ (k : Nat) (vls : List Value), k ≤ texts.length ∧ k ≤ 8 ∧ i = .int .i64 k ∧ Hid (Dp.Turned w.heap.size wr texts k vl vls) ∧ Dp.Keeps (fun _ => False) w wr) (fun _ i _ _ => texts.length - (intOf i).toNat)
  case atStart => exact ⟨0, [], Nat.zero_le _, Nat.zero_le _, rfl, ⟨Dp.Own.nil _ _, fun g hg => by simp [Value.ownBlock] at hg, rfl, fun i hi => absurd hi (by simp)⟩, Dp.Keeps.refl _ _⟩
  case round =>
    obtain ⟨k, vls, hk, hk2, rfl, HT, kk⟩ := hrel
    by_cases hlt : k < texts.length ∧ k < 8
    · obtain ⟨hlt, hlt2⟩ := hlt
      obtain ⟨rfl, hb⟩ := HN.out (by intro e; simp [e] at hlt)
      obtain ⟨hll, hct⟩ := HC.out k hlt
      have ck : wr.cell? ⟨b, o + k, none⟩ = some (.string (Dp.str texts[k])) := (kk.cell (p := ⟨b, o + k, none⟩) hb (fun e => e)).trans hct
      have hss := Dp.str_size texts[k]
      unfold maxLen at hll
      have HLK := Hid.mk_ hll
      generalize hX : texts[k] = X at *
      have HX := Hid.mk_ hX
      clear hX hct
      by_cases hbig : 200 < X.length
      · go_wp2_with (refine Dp.wpList_toBytes rfl _ _ _ rfl Tryz.underlying9 Tryz.underlying93 Tryz.underlying5 (Dp.cut200 X) (by show Value.string ((Dp.str X).extract 0 200) = _; rw [Dp.str_cut]) (by have := Dp.cut200_length X; unfold maxLen; omega) ?_)
        intro cap5 w5 hc5 z5 k5
        have HC5 := Hid.mk_ hc5
        have HK5 := Hid.mk_ k5
        have hcl := Dp.cut200_length X
        generalize hN : (Dp.cut200 X).length = N at *
        have HNL := Hid.mk_ hN
        clear hN hc5 k5
        have kal := (Dp.Keeps.refl (fun _ => False) w5).alloc (.cells #[.slice (some ⟨wr.heap.size, 0, none⟩) N cap5] 93)
        have NW : Hid (∀ j u, [Value.slice (some ⟨wr.heap.size, 0, none⟩) N cap5][j]? = some u → (w5.alloc (.cells #[.slice (some ⟨wr.heap.size, 0, none⟩) N cap5] 93)).cell? ((⟨w5.heap.size, 0, none⟩ : Addr).add j) = some u) := fun j u h => Dp.cell_one w5 _ _ j u h
        have HKA := Hid.mk_ (HK5.out.trans kal)
        have HCA := Hid.mk_ (HC5.out.keep kal (fun _ _ _ _ e => e))
        have HOA := Hid.mk_ (HT.out.own.keep HKA.out (fun _ _ e => e))
        have HTL := Hid.mk_ HT.out.len
        rw [z5] at NW
        clear kal
        go_wp2_with (at_builtin; refine Dp.wpList_append_Own rfl _ _ 72 rfl 93 (.slice none 0 0) 24 Tryz.underlying72 infoSource2 rfl u3 vls rfl HOA.out ⟨wr.heap.size + 1, 0, none⟩ 1 1 [.slice (some ⟨wr.heap.size, 0, none⟩) N cap5] rfl rfl NW.out (fun x hx => by simp at hx; subst hx; rfl) (by omega) (by rw [HTL.out]; unfold maxLen; omega) (by rw [HTL.out]; omega) ?_)
        intro v6 w6 o6 k6 s6
        have hwr := kk.size
        have HT6 : Hid (Dp.Turned w.heap.size w6 texts (k + 1) v6 (vls ++ [.slice (some ⟨wr.heap.size, 0, none⟩) N cap5])) := by
          refine HT.out.step hlt HKA.out ?_ o6 k6 ?_
          · rw [HX.out]
            obtain ⟨g, C, fr, cap, e1, e2, e3⟩ := HCA.out
            exact ⟨g, C, fr, cap, by rw [← e1], by omega, e3⟩
          · rcases s6.out with hh | hh
            · exact .inl hh.1
            · refine .inr fun q hq => ?_
              rw [hh.1] at hq
              have := HKA.out.size
              simp at hq this
              omega
        have HK6 : Hid (Dp.Keeps (fun _ => False) w w6) := (kk.trans HKA.out).next k6 (fun q hq e => by have := HT.out.new q e; omega)
        clear o6 k6 s6 kk
        go_wp2
        go_roundw
        case rel => exact ⟨k + 1, _, by omega, by omega, by go_num, HT6, HK6.out⟩
        case measure => simp [intOf]; omega
      · go_wp2_with (refine Dp.wpList_toBytes rfl _ _ _ rfl Tryz.underlying9 Tryz.underlying93 Tryz.underlying5 (Dp.cut200 X) (by show Value.string (Dp.str X) = _; rw [Dp.cut200_small X hbig]) (by have := Dp.cut200_length X; unfold maxLen; omega) ?_)
        intro cap5 w5 hc5 z5 k5
        have HC5 := Hid.mk_ hc5
        have HK5 := Hid.mk_ k5
        have hcl := Dp.cut200_length X
        generalize hN : (Dp.cut200 X).length = N at *
        have HNL := Hid.mk_ hN
        clear hN hc5 k5
        have kal := (Dp.Keeps.refl (fun _ => False) w5).alloc (.cells #[.slice (some ⟨wr.heap.size, 0, none⟩) N cap5] 93)
        have NW : Hid (∀ j u, [Value.slice (some ⟨wr.heap.size, 0, none⟩) N cap5][j]? = some u → (w5.alloc (.cells #[.slice (some ⟨wr.heap.size, 0, none⟩) N cap5] 93)).cell? ((⟨w5.heap.size, 0, none⟩ : Addr).add j) = some u) := fun j u h => Dp.cell_one w5 _ _ j u h
        have HKA := Hid.mk_ (HK5.out.trans kal)
        have HCA := Hid.mk_ (HC5.out.keep kal (fun _ _ _ _ e => e))
        have HOA := Hid.mk_ (HT.out.own.keep HKA.out (fun _ _ e => e))
        have HTL := Hid.mk_ HT.out.len
        rw [z5] at NW
        clear kal
        go_wp2_with (at_builtin; refine Dp.wpList_append_Own rfl _ _ 72 rfl 93 (.slice none 0 0) 24 Tryz.underlying72 infoSource2 rfl u3 vls rfl HOA.out ⟨wr.heap.size + 1, 0, none⟩ 1 1 [.slice (some ⟨wr.heap.size, 0, none⟩) N cap5] rfl rfl NW.out (fun x hx => by simp at hx; subst hx; rfl) (by omega) (by rw [HTL.out]; unfold maxLen; omega) (by rw [HTL.out]; omega) ?_)
        intro v6 w6 o6 k6 s6
        have hwr := kk.size
        have HT6 : Hid (Dp.Turned w.heap.size w6 texts (k + 1) v6 (vls ++ [.slice (some ⟨wr.heap.size, 0, none⟩) N cap5])) := by
          refine HT.out.step hlt HKA.out ?_ o6 k6 ?_
          · rw [HX.out]
            obtain ⟨g, C, fr, cap, e1, e2, e3⟩ := HCA.out
            exact ⟨g, C, fr, cap, by rw [← e1], by omega, e3⟩
          · rcases s6.out with hh | hh
            · exact .inl hh.1
            · refine .inr fun q hq => ?_
              rw [hh.1] at hq
              have := HKA.out.size
              simp at hq this
              omega
        have HK6 : Hid (Dp.Keeps (fun _ => False) w w6) := (kk.trans HKA.out).next k6 (fun q hq e => by have := HT.out.new q e; omega)
        clear o6 k6 s6 kk
        go_wp2
        go_roundw
        case rel => exact ⟨k + 1, _, by omega, by omega, by go_num, HT6, HK6.out⟩
        case measure => simp [intOf]; omega
    · have hk3 : k = texts.length ∨ k = 8 := by omega
      have HP := Hid.mk_ (HT.out.parts hk3 hk2 hk)
      by_cases hlt : k < texts.length
      · have h256 : ¬ k < 8 := by omega
        go_wp2
        go_ret
        exact ⟨_, rfl, HP.out, kk⟩
      · go_wp2
        go_ret
        exact ⟨_, rfl, HP.out, kk⟩
end Go.Proofs.YtdipojfngdceoabGreatDoor
