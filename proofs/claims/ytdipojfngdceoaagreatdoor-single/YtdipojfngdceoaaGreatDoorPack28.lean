/- Steps on the way: LawFirst, LawLeaf, LawSingle. -/
import Derived.Test.YtdipojfngdceoaaGreatDoorPack01
import Derived.Test.YtdipojfngdceoaaGreatDoorPack26
import Derived.Test.YtdipojfngdceoaaGreatDoorPack27
import Derived.Test.YtdipojfngdceoaaGreatDoorPack31
import Derived.Test.YtdipojfngdceoaaGreatDoorProg
import Derived.WalkKit
import Derived.WalkSpells
import Derived.WalkLawsBesides
/- The first machine: its answers are fixed. -/
namespace Go.Proofs.YtdipojfngdceoaaGreatDoor
open Go.RowKit

theorem lawOpens (w : World) (W : Nat) (vW vT : Value) (words : List Int) (srcs : List (List UInt8)) (hW : Dp.Ints w vW words) (hT : Dp.Texts w vT srcs) (h64 : ∀ x ∈ words, -9223372036854775808 ≤ x ∧ x ≤ 9223372036854775807)
    (hR : Dp.Row w W 32 [Dp.nilV, Dp.nilV, Dp.nilV, Dp.nilV, Dp.nilV, Dp.nilV]) :
    Calls Tryz.prog 13 #[.pointer (some ⟨W, 0, none⟩), .agg #[vW, vT]] w fun e w' => e = .returned (.bool true) ∧ Dp.Keeps (fun q => q = W) w w' ∧ ((Dp.newOk words srcs = false ∧ ∃ v2 v3 v5, ∀ w'', Dp.Keeps (fun _ => False) w' w'' → Dp.KeptOk w'' W Dp.nilV Dp.nilV v2 v3 Dp.nilV v5) ∨ (Dp.newOk words srcs = true ∧ ∃ s b p g G vs vr sg scap v2 v3 v5, Dp.Side w' s b p g G vs vr (Dp.newMach words srcs) ∧ (∀ w'', Dp.Keeps (Dp.Foot b p g) w' w'' → Dp.KeptOk w'' W (.slice (some ⟨sg, 0, none⟩) 1 scap) Dp.nilV v2 v3 Dp.nilV v5 ∧ w''.cell? ⟨sg, 0, none⟩ = some (.pointer (some ⟨s, 0, none⟩))) ∧ w.heap.size ≤ b ∧ w.heap.size ≤ p ∧ w.heap.size ≤ g)) := by
  have hW' := hW
  obtain ⟨wb, wo, wad, wcap, rfl, _⟩ := hW'
  cases wad with
  | none => exact lawOpensN w W _ vT words srcs hW hT h64 hR (fun ad n c e => by simp only [Value.slice.injEq] at e; rw [← e.1]; rfl)
  | some a => exact lawOpensS w W _ vT words srcs hW hT h64 hR (fun ad n c e => by simp only [Value.slice.injEq] at e; rw [← e.1]; rfl)

namespace Dp
def firstWordsL : List Int := [746586117, 8388608]
theorem first_ok : newOk firstWordsL [] = true := by decide +kernel
theorem first_one : (newMach firstWordsL []).step.2 = 0 := by decide +kernel
theorem first_two : (newMach firstWordsL []).step.1.step.2 = 0 := by decide +kernel
theorem first_end : (newMach firstWordsL []).step.1.step.1.s = ⟨1, 2, 5, true, [0, 5, 0, 0, 0, 0, 0, 0]⟩ := by kernel_rfl
end Dp

set_option maxRecDepth 100000 in
set_option maxHeartbeats 1000000 in
theorem lawFirst (w : World) : Calls Tryz.prog 9 #[] w fun e w' => e = .returned (.bool true) ∧ Dp.Keeps (fun _ => False) w w' := by
  go_enter Tryz.func9, Tryz.ntmps9
  go_wp2_with (refine Dp.wpList_box_row rfl 32 _ rfl [Dp.nilV, Dp.nilV, Dp.nilV, Dp.nilV, Dp.nilV, Dp.nilV] rfl ?_)
  intro w1 r1 z1 k1
  have k2 := (Dp.Keeps.refl (fun _ => False) w1).alloc (.cells #[.int .i64 746586117, .int .i64 8388608] 3)
  have hI : Dp.Ints (w1.alloc (.cells #[.int .i64 746586117, .int .i64 8388608] 3)) (.slice (some ⟨w1.heap.size, 0, none⟩) 2 2) Dp.firstWordsL := by
    have hr := Dp.Row.allocNew w1 3 [.int .i64 746586117, .int .i64 8388608]
    refine ⟨w1.heap.size, 0, some ⟨w1.heap.size, 0, none⟩, 2, rfl, by simp [Dp.firstWordsL], fun _ => ⟨rfl, hr.lt⟩, fun i hi => ?_⟩
    have hi' : i < 2 := hi
    rcases (by omega : i = 0 ∨ i = 1) with rfl | rfl
    · exact hr.cell 0
    · exact hr.cell 1
  rw [z1] at hI
  have hT : Dp.Texts (w1.alloc (.cells #[.int .i64 746586117, .int .i64 8388608] 3)) (.slice none 0 0) [] := ⟨0, 0, none, 0, rfl, by simp, fun e => absurd rfl e, fun i hi => absurd hi (by simp)⟩
  have hR := r1.keep k2 (fun e => e)
  have HIT := Hid.mk_ (And.intro hI (And.intro hT hR))
  clear hI hT hR r1
  go_wp2_with fail
  refine (lawOpens _ w.heap.size _ _ Dp.firstWordsL [] HIT.out.1 HIT.out.2.1 (fun x hx => by simp [Dp.firstWordsL] at hx; rcases hx with rfl | rfl <;> decide) HIT.out.2.2).mono ?_
  rintro e w3 ⟨rfl, k3, hcase⟩
  obtain ⟨s, b, p, g, G, vs, vr, sg, scap, v2, v3, v5, hsd, hkp, hb, _, _⟩ : ∃ s b p g G vs vr sg scap v2 v3 v5, Dp.Side w3 s b p g G vs vr (Dp.newMach Dp.firstWordsL []) ∧ (∀ w'', Dp.Keeps (Dp.Foot b p g) w3 w'' → Dp.KeptOk w'' w.heap.size (.slice (some ⟨sg, 0, none⟩) 1 scap) Dp.nilV v2 v3 Dp.nilV v5 ∧ w''.cell? ⟨sg, 0, none⟩ = some (.pointer (some ⟨s, 0, none⟩))) ∧ (w1.alloc (.cells #[.int .i64 746586117, .int .i64 8388608] 3)).heap.size ≤ b ∧ (w1.alloc (.cells #[.int .i64 746586117, .int .i64 8388608] 3)).heap.size ≤ p ∧ (w1.alloc (.cells #[.int .i64 746586117, .int .i64 8388608] 3)).heap.size ≤ g := by
    rcases hcase with ⟨h, _⟩ | ⟨_, h⟩
    · rw [Dp.first_ok] at h; exact absurd h (by decide)
    · exact h
  have hb' : w.heap.size ≤ b := by simp at hb; omega
  have k03 : Dp.Keeps (fun _ => False) w w3 := (k1.trans k2).next k3 (fun q hq e => by omega)
  obtain ⟨hko, hsc⟩ := hkp w3 (Dp.Keeps.refl _ _)
  have c0 := hko.row.cell 0
  simp only [List.getElem?_cons_zero] at c0
  obtain ⟨d0, _⟩ := hsd.cells
  have HPM := Hid.mk_ hsd.prog
  clear hkp hko hsd hcase hb HIT k1 k2 k3
  go_wp2_with fail
  refine (progMStep w3 b G vs _ HPM.out).mono ?_
  rintro e w4 ⟨rfl, k4, p4⟩
  rw [Dp.first_one]
  have HP4 := Hid.mk_ p4
  clear c0 hsc d0 p4
  go_wp2_with fail
  refine (progMStep w4 b G vs _ HP4.out).mono ?_
  rintro e w5 ⟨rfl, k5, p5⟩
  rw [Dp.first_two]
  have HP5 := Hid.mk_ p5
  clear p5
  go_wp2_with fail
  refine (progMLook w5 b G vs _ HP5.out).mono ?_
  rintro e w6 ⟨rfl, k6⟩
  rw [Dp.first_end]
  have HK6 : Hid (Dp.Keeps (fun _ => False) w w6) := ((k03.next k4 (fun q hq e => by omega)).next k5 (fun q hq e => by omega)).trans k6
  obtain ⟨R, hR⟩ : ∃ R : Int, R = Dp.root (Dp.newMach Dp.firstWordsL []).step.1.step.1.cells := ⟨_, rfl⟩
  rw [← hR]
  clear hR k03 k4 k5 k6
  go_wp2_with (refine Dp.wpList_alloc_row rfl 74 rfl _ zeroState ?_)
  intro w7 r7 z7 k7
  have HR7 := Hid.mk_ (Dp.row_nil r7)
  go_wp2_with (refine Dp.wpList_store_in rfl 74 _ _ rfl w6.heap.size 0 rfl (Dp.stCells ⟨1, 2, 5, true, [0, 5, 0, 0, 0, 0, 0, 0]⟩ R) rfl 74 [] _ [] HR7.out rfl rfl (by rw [sizeState]; rfl) (Dp.stCells_one _ _) ?_)
  intro w8 r8 z8 k8
  have r8' : Dp.Row w8 w6.heap.size 74 (Dp.stCells ⟨1, 2, 5, true, [0, 5, 0, 0, 0, 0, 0, 0]⟩ R) := by simpa using r8
  have a1 : w8.cell? ⟨w6.heap.size, 1, none⟩ = some (.int .i64 2) := r8'.cell 1
  have a2 : w8.cell? ⟨w6.heap.size, 2, none⟩ = some (.int .i64 5) := r8'.cell 2
  have a3 : w8.cell? ⟨w6.heap.size, 3, none⟩ = some (.bool true) := r8'.cell 3
  have a5 : w8.cell? ⟨w6.heap.size, 5, none⟩ = some (.int .i64 5) := r8'.cell 5
  have HK8 : Hid (Dp.Keeps (fun _ => False) w w8) := HK6.out.trans (k7.next k8 (fun k hk e => by omega))
  clear r7 r8 r8' HR7 k7 k8 z7 z8
  go_wp2
  go_ret
  exact ⟨rfl, HK8.out⟩

end Go.Proofs.YtdipojfngdceoaaGreatDoor

/- The statements' own small functions: pick, high, set. -/
namespace Go.Proofs.YtdipojfngdceoaaGreatDoor
open Go.RowKit

namespace Dp
/-- Which of n things the raw number c speaks of. -/
def pick (c n : Int) : Int := if c < 0 then (-(c + 1)) % n else c % n
theorem pick_bd (c n : Int) (hn : 0 < n) : 0 ≤ pick c n ∧ pick c n < n := by
  unfold pick; split <;> exact ⟨Int.emod_nonneg _ (by omega), Int.emod_lt_of_pos _ hn⟩
def high (r n : Int) : Int := 805306368 + r * 8388608 + n % 131072
def setw (r n : Int) : Int := 738197504 + r * 8388608 + r * 1048576 + n
end Dp

set_option maxHeartbeats 400000 in
theorem lawPick (c : Int) (w : World) (hc : -9223372036854775808 ≤ c ∧ c ≤ 9223372036854775807) :
    Calls Tryz.prog 10 #[.int .i64 c, .int .i64 4294967296] w fun e w' => e = .returned (.int .i64 (Dp.pick c 4294967296)) ∧ w' = w := by
  by_cases h : c < 0
  · have HP : Hid (Dp.pick c 4294967296 = (-(c + 1)) % 4294967296) := by unfold Hid Dp.pick; rw [if_pos h]
    go_enter Tryz.func10, Tryz.ntmps10
    go_wp2
    go_ret
    exact ⟨Dp.ret_int (by rw [HP.out, ← Int.neg_tmod, Int.tmod_eq_emod_of_nonneg (by omega)]), rfl⟩
  · have HP : Hid (Dp.pick c 4294967296 = c % 4294967296) := by unfold Hid Dp.pick; rw [if_neg h]
    go_enter Tryz.func10, Tryz.ntmps10
    go_wp2
    go_ret
    exact ⟨Dp.ret_int (by rw [HP.out]), rfl⟩

set_option maxHeartbeats 400000 in
theorem lawHigh (r n : Int) (w : World) (hr : 0 ≤ r ∧ r < 8) (hn : 0 ≤ n ∧ n < 4294967296) :
    Calls Tryz.prog 11 #[.int .i64 r, .int .i64 n] w fun e w' => e = .returned (.int .i64 (Dp.high r n)) ∧ w' = w := by
  have HP : Hid (Dp.high r n = 805306368 + r * 8388608 + n % 131072) := rfl
  go_enter Tryz.func11, Tryz.ntmps11
  go_wp2
  go_ret
  exact ⟨Dp.ret_int (by rw [HP.out]), rfl⟩

set_option maxHeartbeats 400000 in
theorem lawSet (r n : Int) (w : World) (hr : 0 ≤ r ∧ r < 8) (hn : 0 ≤ n ∧ n < 4294967296) :
    Calls Tryz.prog 12 #[.int .i64 r, .int .i64 n] w fun e w' => e = .returned (.int .i64 (Dp.setw r n)) ∧ w' = w := by
  have HP : Hid (Dp.setw r n = 738197504 + r * 8388608 + r * 1048576 + n) := rfl
  go_enter Tryz.func12, Tryz.ntmps12
  go_wp2
  go_ret
  exact ⟨Dp.ret_int (by rw [HP.out]), rfl⟩

end Go.Proofs.YtdipojfngdceoaaGreatDoor

/- One instruction, any, over any registers. -/
namespace Go.Proofs.YtdipojfngdceoaaGreatDoor
open Go.RowKit

namespace Dp
/-- The word of the k-th register. -/
def regV (n : Nat) (r : Nat → Int) (k : Nat) : Int := if k < n then pick (r k) 4294967296 else 0
theorem regV_bd (n : Nat) (r : Nat → Int) (k : Nat) : 0 ≤ regV n r k ∧ regV n r k < 4294967296 := by
  unfold regV
  split
  · exact pick_bd _ _ (by decide)
  · decide
/-- The words that set the first k registers. -/
def setWords (n : Nat) (r : Nat → Int) : Nat → List Int
  | 0 => []
  | k + 1 => setWords n r k ++ [high (((k : Int) + 1) % 8) (regV n r k / 32768), setw (((k : Int) + 1) % 8) (regV n r k % 32768)]
theorem setWords_length (n : Nat) (r : Nat → Int) : ∀ k, (setWords n r k).length = 2 * k
  | 0 => rfl
  | k + 1 => by simp only [setWords, List.length_append, setWords_length n r k]; simp; omega
theorem setWords_bd (n : Nat) (r : Nat → Int) : ∀ k, ∀ x ∈ setWords n r k, 0 ≤ x ∧ x < 4294967296
  | 0, x, h => by simp [setWords] at h
  | k + 1, x, h => by
    simp only [setWords, List.mem_append, List.mem_cons, List.not_mem_nil, or_false] at h
    have hb := regV_bd n r k
    rcases h with h | rfl | rfl
    · exact setWords_bd n r k x h
    · unfold high; omega
    · unfold setw; omega
def singleWords (word : Int) (n : Nat) (r : Nat → Int) : List Int := setWords n r 8 ++ [pick word 4294967296, 0]
def singleSrcs : List (List UInt8) := [[], [115, 111, 117, 114, 99, 101]]
theorem own_ints {w : World} {v : Value} {l : List Int} (h : Own w 3 v (regCells l)) (hl : l.length ≤ 1048576) : Ints w v l := by
  have hrl : (regCells l).length = l.length := by simp [regCells]
  rcases h with ⟨rfl, hx⟩ | ⟨g, tail, rfl, r, _⟩
  · have hz : l = [] := by
      have : (regCells l).length = 0 := by rw [hx]; rfl
      exact List.length_eq_zero_iff.1 (by omega)
    subst hz
    exact ⟨0, 0, none, 0, rfl, hl, fun e => absurd rfl e, fun i hi => absurd hi (by simp)⟩
  · refine ⟨g, 0, some ⟨g, 0, none⟩, _, by rw [hrl], hl, fun _ => ⟨rfl, r.lt⟩, fun i hi => ?_⟩
    rw [r.cell, Nat.zero_add, List.getElem?_append_left (by omega)]
    simp [regCells, hi]
def singleOps : List SOp := [⟨2, 16, nilV, ⟨#[]⟩, false⟩, ⟨3, 0, nilV, ⟨#[]⟩, false⟩, ⟨1, 0, nilV, ⟨#[]⟩, false⟩, ⟨3, 0, nilV, ⟨#[]⟩, false⟩, ⟨2, 3, nilV, ⟨#[]⟩, false⟩]
def singleRow : List Value := (singleOps.map SOp.cells).flatten
theorem single_ok (word : Int) (n : Nat) (r : Nat → Int) : newOk (singleWords word n r) singleSrcs = true := by
  rw [newOk_both]
  have h1 : wordsOk (singleWords word n r) = true := by
    refine wordsOk_true _ (by simp only [singleWords, List.length_append, setWords_length, List.length_cons, List.length_nil]; omega) (fun k hk => ?_)
    have hm := List.getElem_mem hk
    generalize (singleWords word n r)[k] = x at hm
    simp only [singleWords, List.mem_append, List.mem_cons, List.not_mem_nil, or_false] at hm
    rcases hm with hm | rfl | rfl
    · have := setWords_bd n r 8 x hm; omega
    · have := pick_bd word 4294967296 (by decide); omega
    · decide
  rw [h1]
  decide
end Dp

set_option maxRecDepth 100000 in
set_option maxHeartbeats 4000000 in
theorem lawSingle (w : World) (word : Int) (hword : -9223372036854775808 ≤ word ∧ word ≤ 9223372036854775807) (ad : Option Addr) (n cap : Nat) (hn : n ≤ 9223372036854775807) (b0 o0 : Nat) (r : Nat → Int) (had : 0 < n → ad = some ⟨b0, o0, none⟩) (hc : ∀ i, i < n → i < 8 → w.cell? ⟨b0, o0 + i, none⟩ = some (.int .i64 (r i))) (h64 : ∀ i, -9223372036854775808 ≤ r i ∧ r i ≤ 9223372036854775807) :
    Calls Tryz.prog 3 #[.int .i64 word, .slice ad n cap] w fun e w' => e = .returned (.bool true) ∧ Dp.Keeps (fun _ => False) w w' := by
  have HC := Hid.mk_ hc
  have HA := Hid.mk_ had
  have H64 := Hid.mk_ h64
  clear hc had h64
  go_enter Tryz.func3, Tryz.ntmps3
  go_wp2_with fail
  refine (lawFirst w).mono ?_
  rintro e w1 ⟨rfl, k1⟩
  go_wp2
  go_loopw [6, 7, 8, 9] (fun vl i _ _ wr => ∃ k : Nat, k ≤ 8 ∧ i = .int .i64 k ∧ Dp.Own wr 3 vl (Dp.regCells (Dp.setWords n r k)) ∧ Hid (∀ q, vl.ownBlock = some q → w.heap.size ≤ q) ∧ Dp.Keeps (fun _ => False) w wr) (fun _ i _ _ _ => 8 - (intOf i).toNat)
  case atStart => exact ⟨0, Nat.zero_le _, rfl, Dp.Own.nil _ _, fun q hq => by simp [Value.ownBlock] at hq, k1⟩
  case round =>
    obtain ⟨k, hk, rfl, ow, HF, kk⟩ := hrel
    by_cases hk8 : k < 8
    · have hrb := Dp.regV_bd n r k
      have HRV : Hid (∀ x, Dp.regV n r k = x → Dp.setWords n r (k + 1) = Dp.setWords n r k ++ [Dp.high (((k : Int) + 1) % 8) (x / 32768), Dp.setw (((k : Int) + 1) % 8) (x % 32768)]) := by
        intro x hx; rw [← hx]; rfl
      have HLN : Hid ((Dp.regCells (Dp.setWords n r k)).length = 2 * k) := by unfold Hid; simp only [Dp.regCells, List.length_map, Dp.setWords_length]
      by_cases hkn : k < n
      · obtain rfl := HA.out (by omega)
        have hck := HC.out k hkn hk8
        have ck : wr.cell? ⟨b0, o0 + k, none⟩ = some (.int .i64 (r k)) := (kk.cell (p := ⟨b0, o0 + k, none⟩) (Dp.cell_lt hck) (fun e => e)).trans hck
        have hrk := H64.out k
        have HVV : Hid (Dp.regV n r k = Dp.pick (r k) 4294967296) := by unfold Hid Dp.regV; rw [if_pos hkn]
        go_wp2_with fail
        refine (lawPick (r k) wr hrk).mono ?_
        rintro e w2 ⟨rfl, rfl⟩
        have hpb := Dp.pick_bd (r k) 4294967296 (by decide)
        generalize Dp.pick (r k) 4294967296 = pv at *
        clear ck hck
        go_wp2_with fail
        refine (lawHigh (((k : Int) + 1) % 8) (pv / 32768) _ (by omega) (by omega)).mono ?_
        rintro e w3 ⟨rfl, hw3⟩
        subst hw3
        go_wp2_with fail
        refine (lawSet (((k : Int) + 1) % 8) (pv % 32768) _ (by omega) (by omega)).mono ?_
        rintro e w4 ⟨rfl, hw4⟩
        subst hw4
        have HSW := Hid.mk_ (HRV.out (pv) HVV.out)
        generalize hH : Dp.high (((k : Int) + 1) % 8) (pv / 32768) = hi at *
        generalize hS : Dp.setw (((k : Int) + 1) % 8) (pv % 32768) = st at *
        have HSW2 : Hid (Dp.setWords n r (k + 1) = Dp.setWords n r k ++ [hi, st]) := by
          unfold Hid
          rw [HSW.out, ← hH, ← hS]
          try rfl
        clear hH hS HSW HRV
        have NW : Hid (∀ j u, [Value.int .i64 hi, Value.int .i64 st][j]? = some u → (w4.alloc (.cells #[.int .i64 hi, .int .i64 st] 3)).cell? ((⟨w4.heap.size, 0, none⟩ : Addr).add j) = some u) := by
          intro j u hj
          have hr := Dp.Row.allocNew w4 3 [.int .i64 hi, .int .i64 st]
          rw [Dp.add_zero_off, hr.cell]; exact hj
        have kal := (Dp.Keeps.refl (fun _ => False) w4).alloc (.cells #[.int .i64 hi, .int .i64 st] 3)
        have HOW := Hid.mk_ (ow.keep kal (fun _ _ e => e))
        go_wp2_with (at_builtin; refine Dp.wpList_append_Own rfl _ _ 22 rfl 3 (.int .i64 0) 8 Tryz.underlying22 infoInt rfl u6 (Dp.regCells (Dp.setWords n r k)) rfl HOW.out ⟨w4.heap.size, 0, none⟩ 2 2 [.int .i64 hi, .int .i64 st] rfl rfl NW.out (fun x hx => by simp at hx; rcases hx with rfl | rfl <;> rfl) (by omega) (by rw [HLN.out]; unfold maxLen; omega) (by rw [HLN.out]; omega) ?_)
        intro v5 w5 o5 k5 s5
        have o5' : Dp.Own w5 3 v5 (Dp.regCells (Dp.setWords n r (k + 1))) := by
          rw [HSW2.out]; simpa [Dp.regCells] using o5
        have hf5 : Hid (∀ q, v5.ownBlock = some q → w.heap.size ≤ q) := by
          intro q hq
          rcases s5.out with hh | hh
          · rw [hh.1] at hq; exact HF.out q hq
          · rw [hh.1] at hq
            have := kk.size
            simp at hq
            omega
        have kk5 : Dp.Keeps (fun _ => False) w w5 := (kk.trans kal).next k5 (fun q hq e => by have := HF.out q e; omega)
        clear o5 k5 s5 kal NW HOW ow
        go_wp2
        go_roundw
        case rel => exact ⟨k + 1, by omega, by go_num, o5', hf5, kk5⟩
        case measure => simp [intOf]; omega
      · have HVV : Hid (Dp.regV n r k = 0) := by unfold Hid Dp.regV; rw [if_neg hkn]
        go_wp2_with fail
        refine (lawHigh (((k : Int) + 1) % 8) (0) _ (by omega) (by omega)).mono ?_
        rintro e w3 ⟨rfl, hw3⟩
        subst hw3
        go_wp2_with fail
        refine (lawSet (((k : Int) + 1) % 8) (0) _ (by omega) (by omega)).mono ?_
        rintro e w4 ⟨rfl, hw4⟩
        subst hw4
        have HSW := Hid.mk_ (HRV.out (0) HVV.out)
        generalize hH : Dp.high (((k : Int) + 1) % 8) (0) = hi at *
        generalize hS : Dp.setw (((k : Int) + 1) % 8) (0) = st at *
        have HSW2 : Hid (Dp.setWords n r (k + 1) = Dp.setWords n r k ++ [hi, st]) := by
          unfold Hid
          rw [HSW.out, ← hH, ← hS]
          try rfl
        clear hH hS HSW HRV
        have NW : Hid (∀ j u, [Value.int .i64 hi, Value.int .i64 st][j]? = some u → (w4.alloc (.cells #[.int .i64 hi, .int .i64 st] 3)).cell? ((⟨w4.heap.size, 0, none⟩ : Addr).add j) = some u) := by
          intro j u hj
          have hr := Dp.Row.allocNew w4 3 [.int .i64 hi, .int .i64 st]
          rw [Dp.add_zero_off, hr.cell]; exact hj
        have kal := (Dp.Keeps.refl (fun _ => False) w4).alloc (.cells #[.int .i64 hi, .int .i64 st] 3)
        have HOW := Hid.mk_ (ow.keep kal (fun _ _ e => e))
        go_wp2_with (at_builtin; refine Dp.wpList_append_Own rfl _ _ 22 rfl 3 (.int .i64 0) 8 Tryz.underlying22 infoInt rfl u6 (Dp.regCells (Dp.setWords n r k)) rfl HOW.out ⟨w4.heap.size, 0, none⟩ 2 2 [.int .i64 hi, .int .i64 st] rfl rfl NW.out (fun x hx => by simp at hx; rcases hx with rfl | rfl <;> rfl) (by omega) (by rw [HLN.out]; unfold maxLen; omega) (by rw [HLN.out]; omega) ?_)
        intro v5 w5 o5 k5 s5
        have o5' : Dp.Own w5 3 v5 (Dp.regCells (Dp.setWords n r (k + 1))) := by
          rw [HSW2.out]; simpa [Dp.regCells] using o5
        have hf5 : Hid (∀ q, v5.ownBlock = some q → w.heap.size ≤ q) := by
          intro q hq
          rcases s5.out with hh | hh
          · rw [hh.1] at hq; exact HF.out q hq
          · rw [hh.1] at hq
            have := kk.size
            simp at hq
            omega
        have kk5 : Dp.Keeps (fun _ => False) w w5 := (kk.trans kal).next k5 (fun q hq e => by have := HF.out q e; omega)
        clear o5 k5 s5 kal NW HOW ow
        go_wp2
        go_roundw
        case rel => exact ⟨k + 1, by omega, by go_num, o5', hf5, kk5⟩
        case measure => simp [intOf]; omega
    · have e8 : k = 8 := by omega
      subst e8
      have HLN : Hid ((Dp.regCells (Dp.setWords n r 8)).length = 16) := by unfold Hid; simp only [Dp.regCells, List.length_map, Dp.setWords_length]
      go_wp2_with fail
      refine (lawPick word wr hword).mono ?_
      rintro e w4 ⟨rfl, hw4⟩
      subst hw4
      have HSW2 : Hid (Dp.singleWords word n r = Dp.setWords n r 8 ++ [Dp.pick word 4294967296, 0]) := rfl
      have hpb := Dp.pick_bd word 4294967296 (by decide)
      generalize Dp.pick word 4294967296 = hi at *
      have NW : Hid (∀ j u, [Value.int .i64 hi, Value.int .i64 0][j]? = some u → (w4.alloc (.cells #[.int .i64 hi, .int .i64 0] 3)).cell? ((⟨w4.heap.size, 0, none⟩ : Addr).add j) = some u) := by
        intro j u hj
        have hr := Dp.Row.allocNew w4 3 [.int .i64 hi, .int .i64 0]
        rw [Dp.add_zero_off, hr.cell]; exact hj
      have kal := (Dp.Keeps.refl (fun _ => False) w4).alloc (.cells #[.int .i64 hi, .int .i64 0] 3)
      have HOW := Hid.mk_ (ow.keep kal (fun _ _ e => e))
      go_wp2_with (at_builtin; refine Dp.wpList_append_Own rfl _ _ 22 rfl 3 (.int .i64 0) 8 Tryz.underlying22 infoInt rfl u6 (Dp.regCells (Dp.setWords n r 8)) rfl HOW.out ⟨w4.heap.size, 0, none⟩ 2 2 [.int .i64 hi, .int .i64 0] rfl rfl NW.out (fun x hx => by simp at hx; rcases hx with rfl | rfl <;> rfl) (by omega) (by rw [HLN.out]; unfold maxLen; omega) (by rw [HLN.out]; omega) ?_)
      intro v5 w5 o5 k5 s5
      have o5' : Dp.Own w5 3 v5 (Dp.regCells (Dp.singleWords word n r)) := by
        rw [HSW2.out]; simpa [Dp.regCells] using o5
      have kk5 : Dp.Keeps (fun _ => False) w w5 := (kk.trans kal).next k5 (fun q hq e => by have := HF.out q e; omega)
      obtain ⟨ad5, cap5, ev5⟩ := o5'.isSlice
      have HL18 : Hid ((Dp.regCells (Dp.singleWords word n r)).length = 18) := by unfold Hid; rw [HSW2.out]; simp only [Dp.regCells, List.length_map, List.length_append, Dp.setWords_length]; rfl
      rw [HL18.out] at ev5
      subst ev5
      clear o5 k5 s5 kal NW HOW ow kk HF
      go_wp2_with (refine Dp.wpList_box_row rfl 32 _ rfl [Dp.nilV, Dp.nilV, Dp.nilV, Dp.nilV, Dp.nilV, Dp.nilV] rfl ?_)
      intro w6 r6 z6 k6
      have kal6 := (Dp.Keeps.refl (fun _ => False) w6).alloc (.cells #[.string ⟨#[]⟩, .string ⟨#[115, 111, 117, 114, 99, 101]⟩] 9)
      have hI : Dp.Ints (w6.alloc (.cells #[.string ⟨#[]⟩, .string ⟨#[115, 111, 117, 114, 99, 101]⟩] 9)) (.slice ad5 18 cap5) (Dp.singleWords word n r) := (Dp.own_ints o5' (by simp only [Dp.singleWords, List.length_append, Dp.setWords_length, List.length_cons, List.length_nil]; omega)).still (k6.trans kal6)
      have hT : Dp.Texts (w6.alloc (.cells #[.string ⟨#[]⟩, .string ⟨#[115, 111, 117, 114, 99, 101]⟩] 9)) (.slice (some ⟨w6.heap.size, 0, none⟩) 2 2) Dp.singleSrcs := by
        have hr := Dp.Row.allocNew w6 9 [.string ⟨#[]⟩, .string ⟨#[115, 111, 117, 114, 99, 101]⟩]
        refine ⟨w6.heap.size, 0, some ⟨w6.heap.size, 0, none⟩, 2, rfl, by simp [Dp.singleSrcs], fun _ => ⟨rfl, hr.lt⟩, fun i hi => ?_⟩
        have hi' : i < 2 := hi
        rcases (by omega : i = 0 ∨ i = 1) with rfl | rfl
        · exact ⟨by simp [Dp.singleSrcs], hr.cell 0⟩
        · exact ⟨by simp [Dp.singleSrcs], hr.cell 1⟩
      rw [z6] at hT
      have hR := r6.keep kal6 (fun e => e)
      have HIT := Hid.mk_ (And.intro hI (And.intro hT hR))
      have HWB : Hid (∀ x ∈ Dp.singleWords word n r, -9223372036854775808 ≤ x ∧ x ≤ 9223372036854775807) := by
        intro x hx
        rw [HSW2.out, List.mem_append] at hx
        rcases hx with hx | hx
        · have := Dp.setWords_bd n r 8 x hx; omega
        · simp only [List.mem_cons, List.not_mem_nil, or_false] at hx
          rcases hx with rfl | rfl <;> omega
      clear hI hT hR r6 o5'
      go_wp2_with fail
      refine (lawOpens _ w5.heap.size _ _ (Dp.singleWords word n r) Dp.singleSrcs HIT.out.1 HIT.out.2.1 HWB.out HIT.out.2.2).mono ?_
      rintro e w7 ⟨rfl, k7, hcase⟩
      have hcase2 := hcase.resolve_left (fun h => by rw [Dp.single_ok] at h; exact absurd h.1 (by decide))
      obtain ⟨_, s, b, p, g, G, vs, vr, sg, scap, v2, v3, v9, hsd, hkp, hb, hp, hg⟩ := hcase2
      have kk7 : Dp.Keeps (fun _ => False) w w7 := ((kk5.trans k6).trans kal6).next k7 (fun q hq e => by have := kk5.size; omega)
      have hkk5 := kk5.size
      have HBB : Hid (w.heap.size ≤ b ∧ w.heap.size ≤ p ∧ w.heap.size ≤ g) := by
        unfold Hid; simp at hb hp hg; omega
      have HKP := Hid.mk_ hkp
      have HSD := Hid.mk_ hsd
      clear hcase hkp hsd HIT k6 kal6 k7 kk5 hb hp hg z6 HWB hkk5
      have kal7 := (Dp.Keeps.refl (fun _ => False) w7).alloc (.cells #[.int .i64 2, .int .i64 16, .slice none 0 0, .string ⟨#[]⟩, .bool false, .int .i64 3, .int .i64 0, .slice none 0 0, .string ⟨#[]⟩, .bool false, .int .i64 1, .int .i64 0, .slice none 0 0, .string ⟨#[]⟩, .bool false, .int .i64 3, .int .i64 0, .slice none 0 0, .string ⟨#[]⟩, .bool false, .int .i64 2, .int .i64 3, .slice none 0 0, .string ⟨#[]⟩, .bool false] 40)
      have hr7 : Dp.Row (w7.alloc (.cells #[.int .i64 2, .int .i64 16, .slice none 0 0, .string ⟨#[]⟩, .bool false, .int .i64 3, .int .i64 0, .slice none 0 0, .string ⟨#[]⟩, .bool false, .int .i64 1, .int .i64 0, .slice none 0 0, .string ⟨#[]⟩, .bool false, .int .i64 3, .int .i64 0, .slice none 0 0, .string ⟨#[]⟩, .bool false, .int .i64 2, .int .i64 3, .slice none 0 0, .string ⟨#[]⟩, .bool false] 40)) w7.heap.size 40 Dp.singleRow := Dp.Row.allocNew w7 40 [.int .i64 2, .int .i64 16, .slice none 0 0, .string ⟨#[]⟩, .bool false, .int .i64 3, .int .i64 0, .slice none 0 0, .string ⟨#[]⟩, .bool false, .int .i64 1, .int .i64 0, .slice none 0 0, .string ⟨#[]⟩, .bool false, .int .i64 3, .int .i64 0, .slice none 0 0, .string ⟨#[]⟩, .bool false, .int .i64 2, .int .i64 3, .slice none 0 0, .string ⟨#[]⟩, .bool false]
      have hlt : b < w7.heap.size ∧ p < w7.heap.size ∧ g < w7.heap.size := by
        obtain ⟨⟨c1, r1⟩, ⟨c2, r2⟩⟩ := HSD.out.ref.rows
        exact ⟨HSD.out.prog.row.lt, r1.lt, r2.lt⟩
      have HS2 := Hid.mk_ (HSD.out.still kal7)
      have HL2 : Hid (∀ w', Dp.Keeps (Dp.Foot b p g) (w7.alloc (.cells #[.int .i64 2, .int .i64 16, .slice none 0 0, .string ⟨#[]⟩, .bool false, .int .i64 3, .int .i64 0, .slice none 0 0, .string ⟨#[]⟩, .bool false, .int .i64 1, .int .i64 0, .slice none 0 0, .string ⟨#[]⟩, .bool false, .int .i64 3, .int .i64 0, .slice none 0 0, .string ⟨#[]⟩, .bool false, .int .i64 2, .int .i64 3, .slice none 0 0, .string ⟨#[]⟩, .bool false] 40)) w' → Dp.KeptOk w' w5.heap.size (.slice (some ⟨sg, 0, none⟩) 1 scap) Dp.nilV v2 v3 Dp.nilV v9 ∧ w'.cell? ⟨sg, 0, none⟩ = some (.pointer (some ⟨s, 0, none⟩))) := fun w' k' => HKP.out w' ((kal7.mono (fun _ _ e => e.elim)).trans k')
      have HO2 : Hid (∀ w', Dp.Keeps (Dp.Foot b p g) (w7.alloc (.cells #[.int .i64 2, .int .i64 16, .slice none 0 0, .string ⟨#[]⟩, .bool false, .int .i64 3, .int .i64 0, .slice none 0 0, .string ⟨#[]⟩, .bool false, .int .i64 1, .int .i64 0, .slice none 0 0, .string ⟨#[]⟩, .bool false, .int .i64 3, .int .i64 0, .slice none 0 0, .string ⟨#[]⟩, .bool false, .int .i64 2, .int .i64 3, .slice none 0 0, .string ⟨#[]⟩, .bool false] 40)) w' → ∀ i (hi : i < Dp.singleOps.length), ∀ j, j < 5 → w'.cell? ⟨w7.heap.size, 0 + i * 5 + j, none⟩ = Dp.singleOps[i].cells[j]?) := by
        intro w' k' i hi j hj
        have hi' : i < 5 := hi
        rw [k'.cell (p := ⟨w7.heap.size, 0 + i * 5 + j, none⟩) hr7.lt (by simp only [Dp.Foot]; omega), hr7.cell]
        clear hr7 k' HSD HS2 HL2 HKP
        rcases (by omega : i = 0 ∨ i = 1 ∨ i = 2 ∨ i = 3 ∨ i = 4) with rfl | rfl | rfl | rfl | rfl <;> rcases (by omega : j = 0 ∨ j = 1 ∨ j = 2 ∨ j = 3 ∨ j = 4) with rfl | rfl | rfl | rfl | rfl <;> rfl
      have HK7 := Hid.mk_ (kk7.trans kal7)
      clear HSD HKP kal7 hr7 kk7 hlt
      go_wp2_with fail
      refine (lawPlay _ w5.heap.size s b p g G vs vr _ HS2.out sg 0 scap _ _ _ _ _ HL2.out Dp.singleOps w7.heap.size 0 5 (some ⟨w7.heap.size, 0, none⟩) (fun _ => rfl) (by decide) (by decide) (by decide) HO2.out).mono ?_
      rintro e w8 ⟨rfl, k8⟩
      have HK8 : Hid (Dp.Keeps (fun _ => False) w w8) := HK7.out.next k8 (fun q hq e => by have := HBB.out; simp only [Dp.Foot] at e; omega)
      clear HS2 HL2 HO2 HK7 k8
      go_wp2
      go_ret
      exact ⟨rfl, HK8.out⟩

end Go.Proofs.YtdipojfngdceoaaGreatDoor
