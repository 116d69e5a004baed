/- Steps on the way: RefDigest, RefMach, RefStepK, RefStepA. -/
import Derived.Test.YtdipojfngdceoaaGreatDoorShQ02
import Derived.Test.YtdipojfngdceoaaGreatDoorShQ03
import Derived.Test.YtdipojfngdceoaaGreatDoorShQ07
import Derived.Test.YtdipojfngdceoaaGreatDoorShQ09
import Derived.Test.YtdipojfngdceoaaGreatDoorProg
import Derived.WalkKit
import Derived.WalkSpells
import Derived.WalkLawsBesides
import Derived.Deep.RegionHeld3
import Derived.Deep.DeepCutAuto
import Derived.Deep.DrawnRows
namespace Go.Proofs.YtdipojfngdceoaaGreatDoor
open Go.RowKit
set_option maxHeartbeats 1000000 in
theorem refDigest (cells : List Int) (hc : ∀ x ∈ cells, Dp.isWord x) (hl : cells.length = 256) (g cap : Nat) (tail : List Value) : ∀ (d at_ : Nat) (a di : Int) (w : World), a = at_ → di = d → Dp.Row w g 3 (Dp.regCells cells ++ tail) → at_ + 2 ^ d ≤ 256 → d ≤ 8 →
  Calls Tryz.prog 56 #[.slice (some ⟨g, 0, none⟩) 256 cap, .int .i64 a, .int .i64 di] w fun e w' => e = .returned (.int .i64 (Dp.digest cells at_ d)) ∧ Dp.Keeps (fun _ => False) w w' := by
 intro d
 induction d with
 | zero =>
  intro at_ a di w ea ed hr hat hd
  subst ea; subst ed
  have ha : at_ < 256 := by rw [Nat.pow_zero] at hat; omega
  have hcell := hr.intAt at_ (by omega)
  have hword : Dp.isWord (cells.getD at_ 0) := by
   rw [List.getD_eq_getElem?_getD, List.getElem?_eq_getElem (by omega)]; exact hc _ (List.getElem_mem _)
  unfold Dp.isWord at hword
  rw [Dp.digest_zero]
  generalize cells.getD at_ 0 = x at *
  go_enter Tryz.func56, Tryz.ntmps56
  go_wp2_with fail
  refine (refFour _ _ (by omega)).mono ?_
  rintro e w1 ⟨rfl, k1⟩
  have q0 : (⟨#[0]⟩ : ByteArray) = Dp.str [0] := rfl
  have q1 := Dp.str_size
  have q2 := Dp.four_length
  have q3 := Dp.str_append
  go_wp2_with fail
  refine (refSum _ _ (by rw [Dp.str_size]; simp [maxLen, Dp.four_length])).mono ?_
  rintro e w2 ⟨rfl, rfl⟩
  rw [Dp.str_data]
  clear q0 q1 q2 q3
  go_wp2
  go_ret
  exact ⟨rfl, k1⟩
 | succ d ih =>
  intro at_ a di w ea ed hr hat hd
  subst ea; subst ed
  have hp : 2 ^ (d + 1) = 2 ^ d + 2 ^ d := by rw [Nat.pow_succ]; omega
  have hp2 : 2 ^ d ≤ 128 := by omega
  have IH : Hid (∀ (at_ : Nat) (a di : Int) (w : World), a = at_ → di = d → Dp.Row w g 3 (Dp.regCells cells ++ tail) → at_ + 2 ^ d ≤ 256 → d ≤ 8 →
   Calls Tryz.prog 56 #[.slice (some ⟨g, 0, none⟩) 256 cap, .int .i64 a, .int .i64 di] w fun e w' => e = .returned (.int .i64 (Dp.digest cells at_ d)) ∧ Dp.Keeps (fun _ => False) w w') := ih
  rw [Dp.digest_succ]
  have hat1 : at_ + 2 ^ d + 2 ^ d ≤ 256 := by omega
  clear ih hat hp
  have hp1 : 1 ≤ 2 ^ d := Nat.one_le_two_pow
  have hd0 : (((d : Int) + 1) == 0) = false := by rw [beq_eq_false_iff_ne]; omega
  go_enter Tryz.func56, Tryz.ntmps56
  go_wp2
  go_loop [7, 8] (fun h i => ∃ k : Nat, k ≤ d ∧ i = .int .i64 (k + 1) ∧ h = .int .i64 ((2 ^ k : Nat) : Int)) (fun _ i => d + 1 - (intOf i).toNat)
  case atStart => exact ⟨0, Nat.zero_le _, rfl, rfl⟩
  case round =>
   obtain ⟨k, hk, rfl, rfl⟩ := hrel
   have hkp : 2 ^ k ≤ 2 ^ d := Nat.pow_le_pow_right (by decide) hk
   by_cases hlt : k < d
   ·have HU : Hid (((2 ^ (k + 1) : Nat) : Int) = 2 * ((2 ^ k : Nat) : Int)) := by unfold Hid; rw [Nat.pow_succ]; omega
    generalize 2 ^ k = U at *
    go_wp2
    go_round
    case rel => exact ⟨k + 1, by omega, by go_num, by rw [HU.out]⟩
    case measure => simp [intOf]; omega
   ·obtain rfl : k = d := by omega
    have b1 := Dp.digest_bd cells at_ k
    have b2 := Dp.digest_bd cells (at_ + 2 ^ k) k
    generalize hU : 2 ^ k = U at *
    have HU : Hid (2 ^ k = U) := hU
    clear hU
    go_wp2_with fail
    refine (IH.out at_ _ _ _ (by omega) (by omega) hr (by omega) (by omega)).mono ?_
    rintro e w1 ⟨rfl, k1⟩
    have hr1 := hr.keep k1 (fun e => e)
    go_wp2_with fail
    refine (refTwo _ _ (by omega)).mono ?_
    rintro e w2 ⟨rfl, k2⟩
    have hr2 := hr1.keep k2 (fun e => e)
    have q0 : (⟨#[1]⟩ : ByteArray) = Dp.str [1] := rfl
    have q1 := Dp.str_size
    have q2 := Dp.two_length
    have q3 := Dp.str_append
    go_wp2_with fail
    refine (IH.out (at_ + U) _ _ _ (by omega) (by omega) hr2 (by omega) (by omega)).mono ?_
    rintro e w3 ⟨rfl, k3⟩
    go_wp2_with fail
    refine (refTwo _ _ (by omega)).mono ?_
    rintro e w4 ⟨rfl, k4⟩
    go_wp2_with fail
    refine (refSum _ _ (by rw [Dp.str_size]; simp [maxLen, Dp.two_length])).mono ?_
    rintro e w5 ⟨rfl, rfl⟩
    rw [Dp.str_data]
    clear q0 q1 q2 q3
    go_wp2
    go_ret
    exact ⟨Dp.ret_int (by rw [HU.out]), ((k1.trans k2).trans k3).trans k4⟩
namespace Dp
def strCells (l : List (List UInt8)) : List Value := l.map fun x => Value.string (str x)
def refCells (s : Cs) (r : Int) (stale : Bool) (vc vs : Value) : List Value := stCells s r ++ [.bool stale, vc, vs]
structure RefM (w : World) (p g : Nat) (vs : Value) (m : Mach) : Prop where
 ok : m.Ok
 ex : ∃ r stale tail, Row w p 113 (refCells m.s r stale (.slice (some ⟨g, 0, none⟩) 256 (256 + tail.length)) vs) ∧ Row w g 3 (regCells m.cells ++ tail) ∧ (stale = false → r = root m.cells) ∧ 0 ≤ r ∧ r < 65536 ∧ 256 + tail.length ≤ maxLen
 src : Own w 9 vs (strCells m.srcs)
theorem RefM.keep {S : Nat → Prop} {w w' : World} {p g : Nat} {vs : Value} {m : Mach} (h : RefM w p g vs m) (k : Keeps S w w') (hp : ¬ S p) (hg : ¬ S g) (hs : ∀ q, vs.ownBlock = some q → ¬ S q) : RefM w' p g vs m := by
 obtain ⟨r, stale, tail, h1, h2, h3⟩ := h.ex
 exact ⟨h.ok, ⟨r, stale, tail, h1.keep k hp, h2.keep k hg, h3⟩, h.src.keep k hs⟩
theorem RefM.lt {w : World} {p g : Nat} {vs : Value} {m : Mach} (h : RefM w p g vs m) : p < w.heap.size ∧ g < w.heap.size := by
 obtain ⟨r, stale, tail, h1, h2, h3⟩ := h.ex
 exact ⟨h1.lt, h2.lt⟩
theorem refCells_length (s : Cs) (r : Int) (stale : Bool) (vc vs : Value) (hl : s.regs.length = 8) : (refCells s r stale vc vs).length = 16 := by simp [refCells, stCells_length s r hl]
theorem Row.refC {w : World} {p : Nat} {e : TypeId} {s : Cs} {r : Int} {stale : Bool} {vc vs : Value} (h : Row w p e (refCells s r stale vc vs)) (hl : s.regs.length = 8) :
  w.cell? ⟨p, 0, none⟩ = some (.int .i64 s.pc) ∧ w.cell? ⟨p, 1, none⟩ = some (.int .i64 s.steps) ∧ w.cell? ⟨p, 2, none⟩ = some (.int .i64 s.code) ∧ w.cell? ⟨p, 3, none⟩ = some (.bool s.over) ∧ w.cell? ⟨p, 12, none⟩ = some (.int .i64 r) ∧ w.cell? ⟨p, 13, none⟩ = some (.bool stale) ∧ w.cell? ⟨p, 14, none⟩ = some vc ∧ w.cell? ⟨p, 15, none⟩ = some vs := by
 have h13 := stCells_length s r hl
 refine ⟨?_, ?_, ?_, ?_, ?_, ?_, ?_, ?_⟩
 ·rw [h.cell]; rfl
 ·rw [h.cell]; rfl
 ·rw [h.cell]; rfl
 ·rw [h.cell]; rfl
 ·rw [h.cell, refCells, List.getElem?_append_left (by omega)]; exact stCells_root s r hl
 ·rw [h.cell, refCells, List.getElem?_append_right (by omega), h13]; rfl
 ·rw [h.cell, refCells, List.getElem?_append_right (by omega), h13]; rfl
 ·rw [h.cell, refCells, List.getElem?_append_right (by omega), h13]; rfl
theorem Row.refReg {w : World} {p : Nat} {e : TypeId} {s : Cs} {r : Int} {stale : Bool} {vc vs : Value} (h : Row w p e (refCells s r stale vc vs)) (hl : s.regs.length = 8) (i : Int) (hi : 0 ≤ i ∧ i < 8) : w.cell? ⟨p, 4 + i.toNat, none⟩ = some (.int .i64 (s.reg i)) := by
 have h13 := stCells_length s r hl
 rw [h.cell, refCells, List.getElem?_append_left (by omega)]; exact stCells_reg s r hl i hi
theorem refCells_fresh (s : Cs) (r r' : Int) (stale : Bool) (vc vs : Value) (hl : s.regs.length = 8) : ((refCells s r stale vc vs).set 12 (.int .i64 r')).set 13 (.bool false) = refCells s r' false vc vs := by
 have h13 := stCells_length s r hl
 have h13' := stCells_length s r' hl
 unfold refCells
 rw [List.set_append_left _ _ (by omega), set_root s r r' hl, List.set_append_right _ _ (by omega), h13']
 rfl
end Dp
set_option maxRecDepth 100000 in
set_option maxHeartbeats 1000000 in
theorem refNow (w : World) (p g : Nat) (vs : Value) (m : Dp.Mach) (h : Dp.RefM w p g vs m) :
  Calls Tryz.prog 90 #[.pointer (some ⟨p, 0, none⟩)] w fun e w' => e = .returned (Dp.stVal m.s (Dp.root m.cells)) ∧ Dp.Keeps (fun k => k = p) w w' ∧ Dp.RefM w' p g vs m := by
 obtain ⟨hok, ⟨r, stale, tail, h1, h2, h3, h4, h5, h6⟩, h7⟩ := h
 have hl := hok.s.len
 have hlt := h1.lt
 have hne : g ≠ p := h2.ne h1 (by decide)
 have hsp := h7.ne h1 (by decide)
 go_enter Tryz.func90, Tryz.ntmps90
 go_wp2_with (refine Dp.wpList_alloc_row rfl 74 rfl _ zeroState ?_)
 intro w1 r1 z1 k1
 have p1 := h1.keep k1 (fun e => e)
 have g1 := h2.keep k1 (fun e => e)
 obtain ⟨_, _, _, _, _, c13, c14, _⟩ := p1.refC hl
 have r1' := Dp.row_nil r1
 have hpz : p ≠ w.heap.size := by omega
 cases stale with
 | false =>
  have hr : r = Dp.root m.cells := h3 rfl
  subst hr
  have HR : Hid (Dp.Row w1 p 113 ([] ++ Dp.stCells m.s (Dp.root m.cells) ++ [.bool false, .slice (some ⟨g, 0, none⟩) 256 (256 + tail.length), vs])) := p1
  have HR3 := Hid.mk_ r1'
  have HM : Hid ((Dp.stCells m.s (Dp.root m.cells)).length = 13) := Dp.stCells_length _ _ hl
  clear r1' r1
  go_wp2_with (refine Dp.wpList_load_in rfl 74 _ rfl p 0 rfl 113 [] _ _ HR.out rfl _ Tryz.underlying74 rfl (by rw [sizeState, HM.out]) ?_)
  intro _
  go_wp2_with (refine Dp.wpList_store_in rfl 74 _ _ rfl w.heap.size 0 rfl (Dp.stCells m.s (Dp.root m.cells)) rfl 74 [] _ [] HR3.out rfl (by rw [HM.out]; rfl) (by rw [sizeState, HM.out]) (Dp.stCells_one _ _) ?_)
  intro w4 r4 z4 k4
  go_wp2
  have r4' : Dp.Row w4 w.heap.size 74 (Dp.stCells m.s (Dp.root m.cells)) := by simpa using r4
  refine bodyPost_ret (v := Dp.stVal m.s (Dp.root m.cells)) (results_cell_row rfl _ _ w.heap.size 74 _ (0, 0) _ rfl r4' Tryz.underlying74 rfl (by rw [sizeState, List.size_toArray, HM.out])) rfl ⟨rfl, ?_, ?_⟩
  ·exact (k1.mono (fun _ _ e => e.elim)).next k4 (fun k hk e => by omega)
  ·exact ⟨hok, ⟨_, _, tail, p1.keep k4 hpz, g1.keep k4 (by have := h2.lt; omega), fun _ => rfl, h4, h5, h6⟩, (h7.keep k1 (fun _ _ e => e)).keep k4 (fun q hq e => by have := h7.lt q hq; omega)⟩
 | true =>
  have f12 := p1.frozen 12
  have f13 := p1.frozen 13
  go_wp2_with fail
  refine (refDigest m.cells hok.cells hok.len g _ tail 8 0 _ _ _ (by omega) (by omega) g1 (by omega) (by omega)).mono ?_
  rintro e w2 ⟨rfl, k2⟩
  have p2 := p1.keep k2 (fun e => e)
  have g2 := g1.keep k2 (fun e => e)
  have q2 := (r1.keep k2 (fun e => e))
  have b2 := Dp.root_bd m.cells
  obtain ⟨_, _, _, _, c12, c13, c14, _⟩ := p2.refC hl
  have f12 := p2.frozen 12
  have f13 := p2.frozen 13
  have hroot : Dp.digest m.cells 0 8 = Dp.root m.cells := rfl
  rw [hroot]
  have k3 : Dp.Keeps (fun k => k = p) w w2 := (k1.trans k2).mono (fun _ _ e => e.elim)
  have s2 := (h7.keep k1 (fun _ _ e => e)).keep k2 (fun _ _ e => e)
  have HP : Hid (Dp.Row ((w2.setCell ⟨p, 12, none⟩ (.int .i64 (Dp.root m.cells))).setCell ⟨p, 13, none⟩ (.bool false)) p 113 ([] ++ Dp.stCells m.s (Dp.root m.cells) ++ [.bool false, .slice (some ⟨g, 0, none⟩) 256 (256 + tail.length), vs])) := by
   have h := (p2.set 12 (.int .i64 (Dp.root m.cells))).set 13 (.bool false)
   rw [Dp.refCells_fresh _ _ _ _ _ _ hl] at h
   exact h
  have HR3 : Hid (Dp.Row ((w2.setCell ⟨p, 12, none⟩ (.int .i64 (Dp.root m.cells))).setCell ⟨p, 13, none⟩ (.bool false)) w.heap.size 74 ([] ++ Dp.stCells ⟨0, 0, 0, false, [0, 0, 0, 0, 0, 0, 0, 0]⟩ 0 ++ [])) := Dp.row_nil ((q2.setOther _ _ (show w.heap.size ≠ p by omega)).setOther _ _ (show w.heap.size ≠ p by omega))
  have HM : Hid ((Dp.stCells m.s (Dp.root m.cells)).length = 13) := Dp.stCells_length _ _ hl
  have HK : Hid (Dp.Keeps (fun k => k = p) w ((w2.setCell ⟨p, 12, none⟩ (.int .i64 (Dp.root m.cells))).setCell ⟨p, 13, none⟩ (.bool false))) := (k3.setCell (.inr rfl) _).setCell (.inr rfl) _
  have HG : Hid (Dp.Row ((w2.setCell ⟨p, 12, none⟩ (.int .i64 (Dp.root m.cells))).setCell ⟨p, 13, none⟩ (.bool false)) g 3 (Dp.regCells m.cells ++ tail)) := (g2.setOther _ _ hne).setOther _ _ hne
  have HS : Hid (Dp.Own ((w2.setCell ⟨p, 12, none⟩ (.int .i64 (Dp.root m.cells))).setCell ⟨p, 13, none⟩ (.bool false)) 9 vs (Dp.strCells m.srcs)) := s2.keep (((Dp.Keeps.refl (fun k => k = p) w2).setCell (p := ⟨p, 12, none⟩) (.inr rfl) _).setCell (p := ⟨p, 13, none⟩) (.inr rfl) _) hsp
  clear r1' r1 p1 g1 q2 p2 g2 hroot
  go_wp2_with (refine Dp.wpList_load_in rfl 74 _ rfl p 0 rfl 113 [] _ _ HP.out rfl _ Tryz.underlying74 rfl (by rw [sizeState, HM.out]) ?_)
  intro _
  go_wp2_with (refine Dp.wpList_store_in rfl 74 _ _ rfl w.heap.size 0 rfl (Dp.stCells m.s (Dp.root m.cells)) rfl 74 [] _ [] HR3.out rfl (by rw [HM.out]; rfl) (by rw [sizeState, HM.out]) (Dp.stCells_one _ _) ?_)
  intro w4 r4 z4 k4
  go_wp2
  have r4' : Dp.Row w4 w.heap.size 74 (Dp.stCells m.s (Dp.root m.cells)) := by simpa using r4
  refine bodyPost_ret (v := Dp.stVal m.s (Dp.root m.cells)) (results_cell_row rfl _ _ w.heap.size 74 _ (0, 0) _ rfl r4' Tryz.underlying74 rfl (by rw [sizeState, List.size_toArray, HM.out])) rfl ⟨rfl, ?_, ?_⟩
  ·exact HK.out.next k4 (fun k hk e => by omega)
  ·have hp4 : Dp.Row w4 p 113 (Dp.refCells m.s (Dp.root m.cells) false (.slice (some ⟨g, 0, none⟩) 256 (256 + tail.length)) vs) := HP.out.keep k4 hpz
   exact ⟨hok, ⟨_, _, tail, hp4, HG.out.keep k4 (by have := h2.lt; omega), fun _ => rfl, b2.1, by omega, h6⟩, HS.out.keep k4 (fun q hq e => by have := h7.lt q hq; omega)⟩
theorem refStamp (w : World) (p g : Nat) (vs : Value) (m : Dp.Mach) (h : Dp.RefM w p g vs m) :
  Calls Tryz.prog 61 #[.pointer (some ⟨p, 0, none⟩)] w fun e w' => e = .returned (.int .i64 (Dp.stamp m.s (Dp.root m.cells))) ∧ Dp.Keeps (fun k => k = p) w w' ∧ Dp.RefM w' p g vs m := by
 have hb := Dp.root_bd m.cells
 have hlen := Dp.label_length m.s (Dp.root m.cells) h.ok.s.len
 have hlt := h.lt
 go_enter Tryz.func61, Tryz.ntmps61
 go_wp2_with fail
 refine (refNow w p g vs m h).mono ?_
 rintro e w1 ⟨rfl, k1, m1⟩
 go_wp2_with fail
 refine (refLabel _ _ _ h.ok.s (by omega)).mono ?_
 rintro e w2 ⟨rfl, k2⟩
 go_wp2_with fail
 refine (refSum _ _ (by rw [Dp.str_size, hlen]; simp [maxLen])).mono ?_
 rintro e w3 ⟨rfl, rfl⟩
 rw [Dp.str_data]
 go_wp2
 go_ret
 exact ⟨rfl, k1.next k2 (fun _ _ e => e.elim), m1.keep k2 (fun e => e) (fun e => e) (fun _ _ e => e)⟩
namespace Dp
def findIdx (l : List (List UInt8)) (name : Int) : Int := match l.findIdx? (fun x => sum x == name) with | some k => (k : Int) | none => -1
theorem Own.strAt {w : World} {e : TypeId} {vs : Value} {l : List (List UInt8)} (h : Own w e vs (strCells l)) (hl : l.length ≤ 8) : ∃ ad cap, vs = .slice ad l.length cap ∧ (l ≠ [] → ∃ b, ad = some ⟨b, 0, none⟩ ∧ ∀ j (hj : j < l.length), w.cell? ⟨b, j, none⟩ = some (.string (str l[j]))) := by
 rcases h with ⟨rfl, h0⟩ | ⟨b, tail, rfl, hr, hm⟩
 ·have : l = [] := by simpa [strCells] using h0
  subst this
  exact ⟨none, 0, rfl, fun h => absurd rfl h⟩
 ·refine ⟨_, _, by simp [strCells]; rfl, fun _ => ⟨b, rfl, fun j hj => ?_⟩⟩
  rw [hr.cell, List.getElem?_append_left (by simpa [strCells] using hj)]
  simp [strCells, hj]
theorem findIdx_hit (l : List (List UInt8)) (name : Int) (k : Nat) (hk : k < l.length) (h : ∀ j (hj : j < k), (sum (l[j]'(by omega)) == name) = false) (hit : (sum l[k] == name) = true) : findIdx l name = k := by
 have : l.findIdx? (fun x => sum x == name) = some k := by
  rw [List.findIdx?_eq_some_iff_getElem]
  exact ⟨hk, hit, fun j hj => by simpa using h j hj⟩
 unfold findIdx
 rw [this]
theorem findIdx_miss (l : List (List UInt8)) (name : Int) (h : ∀ j (hj : j < l.length), (sum l[j] == name) = false) : findIdx l name = -1 := by
 have : l.findIdx? (fun x => sum x == name) = none := by
  rw [List.findIdx?_eq_none_iff]
  intro x hx
  obtain ⟨j, hj, rfl⟩ := List.getElem_of_mem hx
  exact h j hj
 unfold findIdx
 rw [this]
theorem findIdx_cases (l : List (List UInt8)) (name : Int) : (findIdx l name = -1 ∧ findSrc l name = none) ∨ ∃ k, ∃ h : k < l.length, findIdx l name = (k : Int) ∧ findSrc l name = some l[k] := by
 unfold findIdx findSrc
 cases hf : l.findIdx? (fun x => sum x == name) with
 | none =>
  refine .inl ⟨rfl, ?_⟩
  rw [List.find?_eq_none]
  intro x hx
  have := List.findIdx?_eq_none_iff.1 hf x hx
  simpa using this
 | some k =>
  obtain ⟨hk, h1, h2⟩ := List.findIdx?_eq_some_iff_getElem.1 hf
  refine .inr ⟨k, hk, rfl, ?_⟩
  rw [List.find?_eq_some_iff_getElem]
  exact ⟨h1, k, hk, rfl, fun j hj => by simpa using h2 j hj⟩
end Dp
set_option maxHeartbeats 400000 in
theorem refSource (w : World) (p g : Nat) (vs : Value) (m : Dp.Mach) (h : Dp.RefM w p g vs m) (name : Int) :
  Calls Tryz.prog 87 #[.pointer (some ⟨p, 0, none⟩), .int .i64 name] w fun e w' => e = .returned (.int .i64 (Dp.findIdx m.srcs name)) ∧ w' = w := by
 obtain ⟨hok, ⟨r, stale, tail, h1, h2, h3, h4, h5, h6⟩, h7⟩ := h
 have hl := hok.s.len
 obtain ⟨_, _, _, _, _, _, _, c15⟩ := h1.refC hl
 have hn := hok.srcs
 obtain ⟨ad, cap, rfl, hcell⟩ := h7.strAt hn
 clear h1 h2 h3 h4 h5 h6 h7
 go_enter Tryz.func87, Tryz.ntmps87
 go_wp2
 go_loop [5] (fun i => ∃ k : Nat, k ≤ m.srcs.length ∧ i = .int .i64 k ∧ ∀ j (hj : j < k) (hj' : j < m.srcs.length), (Dp.sum m.srcs[j] == name) = false) (fun i => m.srcs.length - (intOf i).toNat)
 case atStart => exact ⟨0, Nat.zero_le _, rfl, fun j hj => absurd hj (by omega)⟩
 case round =>
  obtain ⟨k, hk, rfl, hno⟩ := hrel
  have HNO := Hid.mk_ hno
  clear hno
  by_cases hlt : k < m.srcs.length
  ·obtain ⟨b, rfl, hc⟩ := hcell (by intro e; simp [e] at hlt)
   have ck := hc k hlt
   have hsz : m.srcs[k].length ≤ 200 := hok.src _ (List.getElem_mem hlt)
   clear hc hcell
   go_wp2_with fail
   refine (refSum _ _ (by rw [Dp.str_size]; unfold maxLen; omega)).mono ?_
   rintro e w3 ⟨rfl, rfl⟩
   rw [Dp.str_data]
   cases hit : (Dp.sum m.srcs[k] == name) with
   | true =>
    go_wp2
    go_ret
    exact ⟨Dp.ret_int (Dp.findIdx_hit _ _ k hlt (fun j hj => HNO.out j hj (by omega)) hit).symm, rfl⟩
   | false =>
    have HIT := Hid.mk_ hit
    go_wp2
    go_round
    case rel => exact ⟨k + 1, by omega, by go_num, fun j hj hj' => by
     by_cases e : j = k
     ·subst e; exact HIT.out
     ·exact HNO.out j (by omega) hj'⟩
    case measure => simp [intOf]; omega
  ·obtain rfl : k = m.srcs.length := by omega
   go_wp2
   go_ret
   exact ⟨Dp.ret_int (Dp.findIdx_miss _ _ (fun j hj => HNO.out j hj hj)).symm, rfl⟩
attribute [local go_sem ↓] Go.wp_at_zero Go.wp_at_succ
namespace Dp
theorem Row.cellWord {w : World} {g : Nat} {e : TypeId} {m : Mach} {tail : List Value} (h : Row w g e (regCells m.cells ++ tail)) (hl : m.cells.length = 256) (n : Int) (hn : 0 ≤ n ∧ n < 256) : w.cell? ⟨g, n.toNat, none⟩ = some (.int .i64 (m.cell n)) := h.intAt n.toNat (by omega)
end Dp
namespace Dp
theorem RefM.store {w : World} {p g : Nat} {vs : Value} {m : Mach} (h : RefM w p g vs m) (r : Int) (stale : Bool) (tail : List Value) (hp : Row w p 113 (refCells m.s r stale (.slice (some ⟨g, 0, none⟩) 256 (256 + tail.length)) vs)) (hg : Row w g 3 (regCells m.cells ++ tail)) (hr : stale = false → r = root m.cells) (h4 : 0 ≤ r) (h5 : r < 65536) (h6 : 256 + tail.length ≤ maxLen) (s' : Cs) (hs : s'.Ok) :
  RefM (w.setCells p 0 (stCells s' r)) p g vs { m with s := s' } := by
 have hne : g ≠ p := hg.ne hp (by decide)
 have hsp := h.src.ne hp (by decide)
 have hk : Keeps (fun k => k = p) w (w.setCells p 0 (stCells s' r)) := Keeps.setCells _ _ _ (Keeps.refl _ _) (.inr rfl)
 refine ⟨⟨hs, h.ok.len, h.ok.cells, h.ok.srcs, h.ok.src⟩, ⟨r, stale, tail, ?_, hg.keep hk hne, hr, h4, h5, h6⟩, h.src.keep hk hsp⟩
 have hp' : Row w p 113 ([] ++ stCells m.s r ++ [.bool stale, .slice (some ⟨g, 0, none⟩) 256 (256 + tail.length), vs]) := hp
 exact Row.setCells (stCells m.s r) (stCells s' r) [] _ w hp' (by rw [stCells_length _ _ hs.len, stCells_length _ _ h.ok.s.len])
theorem refCells_stale {w : World} {p g : Nat} {s : Cs} {r : Int} {stale : Bool} {vc vs : Value} (hp : Row w p 113 (refCells s r stale vc vs)) (hgp : g ≠ p) (v : Value) (k : Nat) (hl : s.regs.length = 8) :
  Row ((w.setCell ⟨g, k, none⟩ v).setCell ⟨p, 13, none⟩ (.bool true)).drew p 113 (refCells s r true vc vs) := by
 have h := ((Row.setOther hp ⟨g, k, none⟩ v (Ne.symm hgp)).set 13 (.bool true)).drew
 have h13 := stCells_length s r hl
 have e : (refCells s r stale vc vs).set 13 (.bool true) = refCells s r true vc vs := by
  unfold refCells
  rw [List.set_append_right _ _ (by omega), h13]; rfl
 rwa [e] at h
theorem regCells_put {w : World} {p g : Nat} {cells : List Int} {tail : List Value} (hg : Row w g 3 (regCells cells ++ tail)) (hgp : g ≠ p) (N : Int) (hN : 0 ≤ N ∧ N < 256) (hl : cells.length = 256) (v : Int) :
  Row ((w.setCell ⟨g, N.toNat, none⟩ (.int .i64 v)).setCell ⟨p, 13, none⟩ (.bool true)).drew g 3 (regCells (cells.set N.toNat v) ++ tail) := by
 have h := ((Row.set hg N.toNat (.int .i64 v)).setOther ⟨p, 13, none⟩ (.bool true) hgp).drew
 rw [List.set_append_left _ _ (by simp [regCells]; omega)] at h
 have e : (regCells cells).set N.toNat (.int .i64 v) = regCells (cells.set N.toNat v) := by simp [regCells, List.map_set]
 rwa [e] at h
theorem RefM.storeCell {w : World} {p g : Nat} {vs : Value} {m : Mach} (h : RefM w p g vs m) (r : Int) (stale : Bool) (tail : List Value) (hp : Row w p 113 (refCells m.s r stale (.slice (some ⟨g, 0, none⟩) 256 (256 + tail.length)) vs)) (hg : Row w g 3 (regCells m.cells ++ tail)) (h4 : 0 ≤ r) (h5 : r < 65536) (h6 : 256 + tail.length ≤ maxLen) (N : Int) (hN : 0 ≤ N ∧ N < 256) (v : Int) (hv : isWord v) :
  RefM ((w.setCell ⟨g, N.toNat, none⟩ (.int .i64 v)).setCell ⟨p, 13, none⟩ (.bool true)).drew p g vs (Mach.mk m.s (m.cells.set N.toNat v) m.srcs) := by
 have hgp : g ≠ p := hg.ne hp (by decide)
 have hsp := h.src.ne hp (by decide)
 have hsg := h.src.ne hg (by decide)
 have hk : Keeps (fun k => k = p ∨ k = g) w ((w.setCell ⟨g, N.toNat, none⟩ (.int .i64 v)).setCell ⟨p, 13, none⟩ (.bool true)).drew := (((Keeps.refl _ w).setCell (p := ⟨g, N.toNat, none⟩) (.inr (.inr rfl)) _).setCell (p := ⟨p, 13, none⟩) (.inr (.inl rfl)) _).drew
 refine ⟨⟨h.ok.s, by simp [h.ok.len], fun x hx => (List.mem_or_eq_of_mem_set hx).elim (h.ok.cells x) (fun e => e ▸ hv), h.ok.srcs, h.ok.src⟩, ⟨r, true, tail, refCells_stale hp hgp _ _ h.ok.s.len, regCells_put hg hgp N hN h.ok.len v, fun e => (by cases e), h4, h5, h6⟩, h.src.keep hk (fun q hq e => e.elim (hsp q hq) (hsg q hq))⟩
end Dp
end Go.Proofs.YtdipojfngdceoaaGreatDoor

namespace Go.Proofs.YtdipojfngdceoaaGreatDoor
open Go.RowKit
attribute [local go_sem ↓] Go.wp_at_zero Go.wp_at_succ
set_option maxRecDepth 100000 in
set_option maxHeartbeats 2000000 in
theorem refStepFar (w : World) (p g : Nat) (vs : Value) (m : Dp.Mach) (h : Dp.RefM w p g vs m) (hov : m.s.over = false) (hpc : m.s.pc < 256) (i : Dp.Ins) (hi : Dp.decode (m.cell m.s.pc) = i) (hop : i.op = 13 ∨ i.op = 14) (hn : 256 ≤ Dp.wrap (m.s.reg i.b + i.n)) :
  Calls Tryz.prog 57 #[.pointer (some ⟨p, 0, none⟩)] w fun e w' => e = .returned (.int .i64 3) ∧ Dp.Keeps (fun k => k = p ∨ k = g) w w' ∧ Dp.RefM w' p g vs m := by
 have hM := h
 obtain ⟨hok, ⟨r, stale, tail, h1, h2, h3, h4, h5, h6⟩, h7⟩ := h
 have hl := hok.s.len
 have hpc0 := hok.s.pc.1
 have hiok : i.Ok := hi ▸ Dp.decode_ok _ (hok.cell _)
 have hword := hok.cell m.s.pc
 have e0 : ∀ wx, Dp.Keeps (fun _ => False) w wx → wx.cell? ⟨p, 0, none⟩ = some (.int .i64 m.s.pc) := fun wx kx => ((h1.keep kx (fun e => e)).refC hl).1
 have e14 : ∀ wx, Dp.Keeps (fun _ => False) w wx → wx.cell? ⟨p, 14, none⟩ = some (.slice (some ⟨g, 0, none⟩) 256 (256 + tail.length)) := fun wx kx => ((h1.keep kx (fun e => e)).refC hl).2.2.2.2.2.2.1
 have eg : ∀ wx, Dp.Keeps (fun _ => False) w wx → wx.cell? ⟨g, m.s.pc.toNat, none⟩ = some (.int .i64 (m.cell m.s.pc)) := fun wx kx => (h2.keep kx (fun e => e)).cellWord hok.len _ (by omega)
 obtain ⟨c0, _, _, c3, _, _, _, _⟩ := h1.refC hl
 rw [hov] at c3
 go_enter Tryz.func57, Tryz.ntmps57
 go_upto_region 5 with (fail)
 go_cut [3] (fun t wx => ∃ gi, t = .pointer (some ⟨gi, 0, none⟩) ∧ w.heap.size ≤ gi ∧ Dp.Row wx gi 143 (Dp.insCells i) ∧ Dp.Keeps (fun _ => False) w wx)
 case first =>
  have HI : Hid (Dp.decode (m.cell m.s.pc) = i) := hi
  clear hi hM h1 h2 h3 h4 h5 h6 h7 hop hn
  go_region_held3 (fun wx => Dp.Keeps (fun _ => False) w wx)
   (first | with_reducible exact (Dp.Keeps.refl _ _).drew | with_reducible exact Dp.Keeps.drew (Dp.Keeps.alloc (Dp.Keeps.refl _ _) _) | with_reducible exact Dp.Keeps.trans (by with_reducible assumption) k' | with_reducible exact Dp.Keeps.alloc (by with_reducible assumption) _ | with_reducible exact Dp.Keeps.alloc (Dp.Keeps.trans ((Dp.Keeps.refl _ _).drew) k') _ | with_reducible exact Dp.Keeps.set5 (by with_reducible assumption) (Nat.le_refl _) _ _ _ _ _)
   ((go_at_call 84; refine (refDecodeX _ i _ hword HI.out).mono ?_; rintro e w' ⟨rfl, k'⟩; obtain ⟨kc, kf⟩ := Dp.Keeps.cells k'))
  ·go_wp2
   go_meet
   case rel => exact ⟨w'.heap.size, rfl, k'.size, Dp.Row.allocNew w' 143 (Dp.insCells i), (Dp.Keeps.trans ((Dp.Keeps.refl _ _).drew) k').alloc _⟩
  ·go_wp2
   go_meet
   case rel =>
    have hz : Dp.Row w' w.heap.size 143 (Dp.insCells ⟨0, 0, 0, 0, 0⟩) := ((Dp.Row.allocNew w 143 (Dp.insCells ⟨0, 0, 0, 0, 0⟩)).drew).keep k' (fun e => e)
    have hk : Dp.Keeps (fun _ => False) w w' := Dp.Keeps.trans (((Dp.Keeps.refl _ _).alloc _).drew) k'
    exact ⟨w.heap.size, rfl, Nat.le_refl _, ((((hz.set 0 _).set 1 _).set 2 _).set 3 _).set 4 _, hk.set5 (Nat.le_refl _) _ _ _ _ _⟩
 case rest =>
  obtain ⟨gi, rfl, hgi, ri, kw⟩ := hcut
  clear e0 e14 eg c0 c3
  have hp := h1.keep kw (fun e => e)
  have hg := h2.keep kw (fun e => e)
  have hsr := h7.keep kw (fun _ _ e => e)
  have hplt := h1.lt
  have hglt := h2.lt
  have e0 : ∀ wx, Dp.Keeps (fun _ => False) wc wx → wx.cell? ⟨gi, 2, none⟩ = some (.int .i64 i.b) := fun wx kx => ((ri.keep kx (fun e => e)).insC).2.2.1
  have e1 : ∀ wx, Dp.Keeps (fun _ => False) wc wx → wx.cell? ⟨gi, 4, none⟩ = some (.int .i64 i.n) := fun wx kx => ((ri.keep kx (fun e => e)).insC).2.2.2.2
  have e2 : ∀ wx, Dp.Keeps (fun _ => False) wc wx → wx.cell? ⟨p, 4 + i.b.toNat, none⟩ = some (.int .i64 (m.s.reg i.b)) := fun wx kx => (hp.keep kx (fun e => e)).refReg hl i.b hiok.b
  obtain ⟨i0, i1, i2, i3, i4⟩ := ri.insC
  have hib := hiok.b
  have hin := hiok.n
  have hrb := hok.s.reg i.b
  unfold Dp.isWord at hrb
  have hwr : IntKind.i64.wrap (m.s.reg i.b + i.n) = m.s.reg i.b + i.n := by rw [IntKind.wrap_i64]; omega
  have ht : ((i.op == 13) = true) ∨ ((i.op == 13) = false ∧ (i.op == 14) = true) := by
   rcases hop with h | h <;> simp [h]
  clear hop
  rcases ht with ht | ⟨ht, ht2⟩
  all_goals
   go_wp2
   go_region_held3 (fun wx => Dp.Keeps (fun _ => False) wc wx) (with_reducible exact (Dp.Keeps.refl _ _).drew) ((go_at_call 85; refine (refWrap _ _).mono ?_; rintro e w' ⟨rfl, rfl⟩))
   go_wp2
   go_ret
   exact ⟨rfl, (kw.mono (fun _ _ e => e.elim)).drew, hM.keep kw.drew (fun e => e) (fun e => e) (fun _ _ e => e)⟩
end Go.Proofs.YtdipojfngdceoaaGreatDoor
