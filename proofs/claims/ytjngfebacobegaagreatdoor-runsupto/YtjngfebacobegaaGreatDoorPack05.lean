/- Steps on the way: RefLabel, RefDigest, RefMach. -/
import Derived.Test.YtjngfebacobegaaGreatDoorPack02
import Derived.Test.YtjngfebacobegaaGreatDoorPack03
import Derived.Test.YtjngfebacobegaaGreatDoorProg
import Derived.WalkKit
import Derived.WalkSpells
import Derived.WalkLawsBesides
import Derived.Deep.RegionHeld3
import Derived.Deep.DeepCutAuto
/- The document's answer: the label of a state, the digest of cells. -/
namespace Go.Proofs.YtjngfebacobegaaGreatDoor
open Go.RowKit

namespace Dp
theorem flat_four (l : List Int) : ((l.map four).flatten).length = 4 * l.length := by
  induction l with
  | nil => rfl
  | cons x l ih => simp [ih, four_length]; omega
theorem label_bd (s : Cs) (ob : UInt8) (k : Nat) (hk : k ≤ 8) : (four s.pc ++ (four s.steps ++ (four s.code ++ [ob])) ++ ((s.regs.take k).map four).flatten).length ≤ 100 := by
  rw [List.length_append, flat_four]
  simp [four_length]
  omega
theorem stCells_root (s : Cs) (root : Int) (hl : s.regs.length = 8) : (stCells s root)[12]? = some (.int .i64 root) := by
  unfold stCells
  rw [List.getElem?_append_right (by simp [regCells, hl])]
  simp [regCells, hl]
theorem label_length (s : Cs) (root : Int) (hl : s.regs.length = 8) : (label s root).length = 47 := by
  unfold label
  simp only [List.length_append, flat_four, four_length, two_length, hl]
  rfl
end Dp

set_option maxRecDepth 100000 in
set_option maxHeartbeats 1000000 in
theorem refLabel (s : Dp.Cs) (root : Int) (w : World) (hs : s.Ok) (hr : 0 ≤ root ∧ root < 65536) :
    Calls Tryz.prog 59 #[Dp.stVal s root] w fun e w' => e = .returned (.string (Dp.str (Dp.label s root))) ∧ Dp.Keeps (fun _ => False) w w' := by
  have hpc := hs.pc
  have hst := hs.steps
  have hco := hs.code
  unfold Dp.isWord at hpc hst hco
  go_enter Tryz.func59, Tryz.ntmps59
  go_wp2_with (refine Dp.wpList_box_row rfl 53 _ rfl (Dp.stCells s root) rfl ?_)
  intro w1 r1 z1 k1
  have HS : Hid (∀ wx, Dp.Keeps (fun _ => False) w1 wx → (wx.cell? ⟨w.heap.size, 0, none⟩ = some (.int .i64 s.pc) ∧ wx.cell? ⟨w.heap.size, 1, none⟩ = some (.int .i64 s.steps) ∧ wx.cell? ⟨w.heap.size, 2, none⟩ = some (.int .i64 s.code) ∧ Dp.Keeps (fun _ => False) w1 wx)) := by
    intro wx kx
    obtain ⟨c0, c1, c2, _⟩ := (r1.keep kx (fun e => e)).st
    exact ⟨c0, c1, c2, kx⟩
  have q1 := Dp.str_size
  have q2 := Dp.four_length
  have q3 := Dp.str_append
  go_wp2
  go_region_held3 (fun wx => wx.cell? ⟨w.heap.size, 0, none⟩ = some (.int .i64 s.pc) ∧ wx.cell? ⟨w.heap.size, 1, none⟩ = some (.int .i64 s.steps) ∧ wx.cell? ⟨w.heap.size, 2, none⟩ = some (.int .i64 s.code) ∧ Dp.Keeps (fun _ => False) w1 wx)
    (first | exact HS.out _ (Dp.Keeps.drew (Dp.Keeps.refl _ _)) | (go_split_ands; first | exact HS.out _ (by assumption) | exact HS.out _ (Dp.Keeps.trans (by assumption) k')))
    ((go_at_call 48; refine (refFour _ _ (by omega)).mono ?_; rintro e w' ⟨rfl, k'⟩))
  rename_i hHeld
  obtain ⟨_, _, _, kq⟩ := hHeld
  have rq := r1.keep kq (fun e => e)
  obtain ⟨_, _, _, c3⟩ := rq.st
  have kw : Dp.Keeps (fun _ => False) w w' := k1.trans kq
  generalize hob : (if s.over then 1 else 0 : UInt8) = ob
  have HL : Hid (Dp.label s root = Dp.four s.pc ++ (Dp.four s.steps ++ (Dp.four s.code ++ [ob])) ++ (s.regs.map Dp.four).flatten ++ Dp.two root) := by
    unfold Hid Dp.label; rw [hob]; simp
  have q4 : (⟨#[1]⟩ : ByteArray) = Dp.str [1] := rfl
  have q5 : (⟨#[0]⟩ : ByteArray) = Dp.str [0] := rfl
  have HO : Hid ((if s.over then 1 else 0 : UInt8) = ob) := hob
  have q6 : ∀ x : UInt8, [x].length = 1 := fun _ => rfl
  clear k' kq r1 z1 k1 HS hob
  go_upto_if 17 with (fail)
  go_cut [3] (fun t wx => t = .string (Dp.str (Dp.four s.pc ++ (Dp.four s.steps ++ (Dp.four s.code ++ [ob])))) ∧ wx = w')
  case first =>
    cases ho : s.over with
    | true =>
      have hob : ob = 1 := by rw [← HO.out, ho]; rfl
      subst hob
      go_wp2
      go_meet
      case rel => exact ⟨rfl, rfl⟩
    | false =>
      have hob : ob = 0 := by rw [← HO.out, ho]; rfl
      subst hob
      go_wp2
      go_meet
      case rel => exact ⟨rfl, rfl⟩
  case rest =>
    obtain ⟨rfl, rfl⟩ := hcut
    clear c3 q4 q5 q6
    go_wp2
    go_loopw [3, 4] (fun t i wx => ∃ k : Nat, k ≤ 8 ∧ i = .int .i64 k ∧ t = .string (Dp.str (Dp.four s.pc ++ (Dp.four s.steps ++ (Dp.four s.code ++ [ob])) ++ ((s.regs.take k).map Dp.four).flatten)) ∧ Dp.Row wx w.heap.size 53 (Dp.stCells s root) ∧ Dp.Keeps (fun _ => False) w wx) (fun _ i _ => 8 - (intOf i).toNat)
    case atStart => exact ⟨0, Nat.zero_le _, rfl, by simp, rq, kw⟩
    case round =>
      obtain ⟨k, hk, rfl, rfl, rk, kk⟩ := hrel
      clear rq kw
      by_cases hlt : k < 8
      · have hlen : k < s.regs.length := by rw [hs.len]; exact hlt
        have hreg := hs.reg (k : Int)
        unfold Dp.isWord at hreg
        have ck := rk.stReg hs.len (k : Int) (by omega)
        rw [Int.toNat_natCast] at ck
        have hpl : (Dp.four s.pc ++ (Dp.four s.steps ++ (Dp.four s.code ++ [ob])) ++ ((s.regs.take k).map Dp.four).flatten).length ≤ 100 := Dp.label_bd s ob k hk
        have HK : Hid (∀ x, Dp.str (Dp.four s.pc ++ (Dp.four s.steps ++ (Dp.four s.code ++ [ob])) ++ ((s.regs.take k).map Dp.four).flatten) = x → x ++ Dp.str (Dp.four (s.reg k)) = Dp.str (Dp.four s.pc ++ (Dp.four s.steps ++ (Dp.four s.code ++ [ob])) ++ ((s.regs.take (k + 1)).map Dp.four).flatten)) := by
          rintro x rfl
          rw [Dp.str_append, List.take_succ_eq_append_getElem hlen, List.map_append, List.flatten_append, ← List.append_assoc]
          simp [Dp.Cs.reg, hlen]
        have hsz := Dp.str_size (Dp.four s.pc ++ (Dp.four s.steps ++ (Dp.four s.code ++ [ob])) ++ ((s.regs.take k).map Dp.four).flatten)
        clear q1 q3
        generalize Dp.str (Dp.four s.pc ++ (Dp.four s.steps ++ (Dp.four s.code ++ [ob])) ++ ((s.regs.take k).map Dp.four).flatten) = X at *
        generalize (Dp.four s.pc ++ (Dp.four s.steps ++ (Dp.four s.code ++ [ob])) ++ ((s.regs.take k).map Dp.four).flatten).length = L at *
        go_wp2_with fail
        refine (refFour _ _ (by omega)).mono ?_
        rintro e w2 ⟨rfl, k2⟩
        have hz4 := Dp.str_size (Dp.four (s.reg k))
        rw [Dp.four_length] at hz4
        go_wp2
        go_roundw
        case rel => exact ⟨k + 1, by omega, by go_num, by rw [HK.out X rfl], rk.keep k2 (fun e => e), kk.trans k2⟩
        case measure => simp [intOf]; omega
      · obtain rfl : k = 8 := by omega
        have hpl := Dp.label_bd s ob 8 (Nat.le_refl _)
        have hrt : (s.regs.take 8) = s.regs := List.take_of_length_le (by rw [hs.len]; exact Nat.le_refl _)
        rw [hrt] at hpl ⊢
        have c12 : wr.cell? ⟨w.heap.size, 12, none⟩ = some (.int .i64 root) := by rw [rk.cell]; exact Dp.stCells_root s root hs.len
        have hsz := Dp.str_size (Dp.four s.pc ++ (Dp.four s.steps ++ (Dp.four s.code ++ [ob])) ++ (s.regs.map Dp.four).flatten)
        have HK : Hid (Dp.str (Dp.four s.pc ++ (Dp.four s.steps ++ (Dp.four s.code ++ [ob])) ++ (s.regs.map Dp.four).flatten) ++ Dp.str (Dp.two root) = Dp.str (Dp.label s root)) := by
          unfold Hid; rw [Dp.str_append, HL.out]
        clear q1 q3 hrt
        generalize Dp.str (Dp.four s.pc ++ (Dp.four s.steps ++ (Dp.four s.code ++ [ob])) ++ (s.regs.map Dp.four).flatten) = X at *
        generalize (Dp.four s.pc ++ (Dp.four s.steps ++ (Dp.four s.code ++ [ob])) ++ (s.regs.map Dp.four).flatten).length = L at *
        go_wp2_with fail
        refine (refTwo _ _ (by omega)).mono ?_
        rintro e w2 ⟨rfl, k2⟩
        have hz2 := Dp.str_size (Dp.two root)
        rw [Dp.two_length] at hz2
        go_wp2
        go_ret
        exact ⟨Dp.ret_str HK.out, kk.trans k2⟩

end Go.Proofs.YtjngfebacobegaaGreatDoor

/- The document's answer: the digest of cells comes to the plain one. -/
namespace Go.Proofs.YtjngfebacobegaaGreatDoor
open Go.RowKit

namespace Dp
theorem Row.intAt {w : World} {g : Nat} {e : TypeId} {l : List Int} {tail : List Value} (h : Row w g e (regCells l ++ tail)) (j : Nat) (hj : j < l.length) : w.cell? ⟨g, j, none⟩ = some (.int .i64 (l.getD j 0)) := by
  rw [h.cell, List.getElem?_append_left (by simpa [regCells] using hj)]
  simp [regCells, hj, List.getD_eq_getElem?_getD]
theorem digest_zero (cells : List Int) (at_ : Nat) : digest cells at_ 0 = sum (0 :: four (cells.getD at_ 0)) := rfl
theorem digest_succ (cells : List Int) (at_ d : Nat) : digest cells at_ (d + 1) = sum (1 :: (two (digest cells at_ d) ++ two (digest cells (at_ + 2 ^ d) d))) := rfl
end Dp

set_option maxHeartbeats 1000000 in
theorem refDigest (cells : List Int) (hc : ∀ x ∈ cells, Dp.isWord x) (hl : cells.length = 256) (g cap : Nat) (tail : List Value) : ∀ (d at_ : Nat) (a di : Int) (w : World), a = at_ → di = d → Dp.Row w g 3 (Dp.regCells cells ++ tail) → at_ + 2 ^ d ≤ 256 → d ≤ 8 →
    Calls Tryz.prog 25 #[.slice (some ⟨g, 0, none⟩) 256 cap, .int .i64 a, .int .i64 di] w fun e w' => e = .returned (.int .i64 (Dp.digest cells at_ d)) ∧ Dp.Keeps (fun _ => False) w w' := by
  intro d
  induction d with
  | zero =>
    intro at_ a di w ea ed hr hat hd
    subst ea; subst ed
    have ha : at_ < 256 := by rw [Nat.pow_zero] at hat; omega
    have hcell := hr.intAt at_ (by omega)
    have hword : Dp.isWord (cells.getD at_ 0) := by
      rw [List.getD_eq_getElem?_getD, List.getElem?_eq_getElem (by omega)]; exact hc _ (List.getElem_mem _)
    unfold Dp.isWord at hword
    rw [Dp.digest_zero]
    generalize cells.getD at_ 0 = x at *
    go_enter Tryz.func25, Tryz.ntmps25
    go_wp2_with fail
    refine (refFour _ _ (by omega)).mono ?_
    rintro e w1 ⟨rfl, k1⟩
    have q0 : (⟨#[0]⟩ : ByteArray) = Dp.str [0] := rfl
    have q1 := Dp.str_size
    have q2 := Dp.four_length
    have q3 := Dp.str_append
    go_wp2_with fail
    refine (refSum _ _ (by rw [Dp.str_size]; simp [maxLen, Dp.four_length])).mono ?_
    rintro e w2 ⟨rfl, rfl⟩
    rw [Dp.str_data]
    clear q0 q1 q2 q3
    go_wp2
    go_ret
    exact ⟨rfl, k1⟩
  | succ d ih =>
    intro at_ a di w ea ed hr hat hd
    subst ea; subst ed
    have hp : 2 ^ (d + 1) = 2 ^ d + 2 ^ d := by rw [Nat.pow_succ]; omega
    have hp2 : 2 ^ d ≤ 128 := by omega
    have IH : Hid (∀ (at_ : Nat) (a di : Int) (w : World), a = at_ → di = d → Dp.Row w g 3 (Dp.regCells cells ++ tail) → at_ + 2 ^ d ≤ 256 → d ≤ 8 →
      Calls Tryz.prog 25 #[.slice (some ⟨g, 0, none⟩) 256 cap, .int .i64 a, .int .i64 di] w fun e w' => e = .returned (.int .i64 (Dp.digest cells at_ d)) ∧ Dp.Keeps (fun _ => False) w w') := ih
    rw [Dp.digest_succ]
    have hat1 : at_ + 2 ^ d + 2 ^ d ≤ 256 := by omega
    clear ih hat hp
    have hp1 : 1 ≤ 2 ^ d := Nat.one_le_two_pow
    have hd0 : (((d : Int) + 1) == 0) = false := by rw [beq_eq_false_iff_ne]; omega
    go_enter Tryz.func25, Tryz.ntmps25
    go_wp2
    go_loop [7, 8] (fun h i => ∃ k : Nat, k ≤ d ∧ i = .int .i64 (k + 1) ∧ h = .int .i64 ((2 ^ k : Nat) : Int)) (fun _ i => d + 1 - (intOf i).toNat)
    case atStart => exact ⟨0, Nat.zero_le _, rfl, rfl⟩
    case round =>
      obtain ⟨k, hk, rfl, rfl⟩ := hrel
      have hkp : 2 ^ k ≤ 2 ^ d := Nat.pow_le_pow_right (by decide) hk
      by_cases hlt : k < d
      · have HU : Hid (((2 ^ (k + 1) : Nat) : Int) = 2 * ((2 ^ k : Nat) : Int)) := by unfold Hid; rw [Nat.pow_succ]; omega
        generalize 2 ^ k = U at *
        go_wp2
        go_round
        case rel => exact ⟨k + 1, by omega, by go_num, by rw [HU.out]⟩
        case measure => simp [intOf]; omega
      · obtain rfl : k = d := by omega
        have b1 := Dp.digest_bd cells at_ k
        have b2 := Dp.digest_bd cells (at_ + 2 ^ k) k
        generalize hU : 2 ^ k = U at *
        have HU : Hid (2 ^ k = U) := hU
        clear hU
        go_wp2_with fail
        refine (IH.out at_ _ _ _ (by omega) (by omega) hr (by omega) (by omega)).mono ?_
        rintro e w1 ⟨rfl, k1⟩
        have hr1 := hr.keep k1 (fun e => e)
        go_wp2_with fail
        refine (refTwo _ _ (by omega)).mono ?_
        rintro e w2 ⟨rfl, k2⟩
        have hr2 := hr1.keep k2 (fun e => e)
        have q0 : (⟨#[1]⟩ : ByteArray) = Dp.str [1] := rfl
        have q1 := Dp.str_size
        have q2 := Dp.two_length
        have q3 := Dp.str_append
        go_wp2_with fail
        refine (IH.out (at_ + U) _ _ _ (by omega) (by omega) hr2 (by omega) (by omega)).mono ?_
        rintro e w3 ⟨rfl, k3⟩
        go_wp2_with fail
        refine (refTwo _ _ (by omega)).mono ?_
        rintro e w4 ⟨rfl, k4⟩
        go_wp2_with fail
        refine (refSum _ _ (by rw [Dp.str_size]; simp [maxLen, Dp.two_length])).mono ?_
        rintro e w5 ⟨rfl, rfl⟩
        rw [Dp.str_data]
        clear q0 q1 q2 q3
        go_wp2
        go_ret
        exact ⟨Dp.ret_int (by rw [HU.out]), ((k1.trans k2).trans k3).trans k4⟩

end Go.Proofs.YtjngfebacobegaaGreatDoor

/- The document's answer: its machine in memory; the state with its root, the stamp, the source that is called so. -/
namespace Go.Proofs.YtjngfebacobegaaGreatDoor
open Go.RowKit

namespace Dp
/-- The texts that the sources are. -/
def strCells (l : List (List UInt8)) : List Value := l.map fun x => Value.string (str x)
/-- The cells of the document's machine. -/
def refCells (s : Cs) (r : Int) (stale : Bool) (vc vs : Value) : List Value := stCells s r ++ [.bool stale, vc, vs]
/-- The document's machine m lies at block p, its cells at block g, its sources are vs. -/
structure RefM (w : World) (p g : Nat) (vs : Value) (m : Mach) : Prop where
  ok : m.Ok
  ex : ∃ r stale tail, Row w p 83 (refCells m.s r stale (.slice (some ⟨g, 0, none⟩) 256 (256 + tail.length)) vs) ∧ Row w g 3 (regCells m.cells ++ tail) ∧ (stale = false → r = root m.cells) ∧ 0 ≤ r ∧ r < 65536 ∧ 256 + tail.length ≤ maxLen
  src : Own w 9 vs (strCells m.srcs)

theorem RefM.keep {S : Nat → Prop} {w w' : World} {p g : Nat} {vs : Value} {m : Mach} (h : RefM w p g vs m) (k : Keeps S w w') (hp : ¬ S p) (hg : ¬ S g) (hs : ∀ q, vs.ownBlock = some q → ¬ S q) : RefM w' p g vs m := by
  obtain ⟨r, stale, tail, h1, h2, h3⟩ := h.ex
  exact ⟨h.ok, ⟨r, stale, tail, h1.keep k hp, h2.keep k hg, h3⟩, h.src.keep k hs⟩
theorem RefM.lt {w : World} {p g : Nat} {vs : Value} {m : Mach} (h : RefM w p g vs m) : p < w.heap.size ∧ g < w.heap.size := by
  obtain ⟨r, stale, tail, h1, h2, h3⟩ := h.ex
  exact ⟨h1.lt, h2.lt⟩
theorem root_bd (cells : List Int) : 0 ≤ root cells ∧ root cells < 65521 := digest_bd cells 0 8
theorem refCells_length (s : Cs) (r : Int) (stale : Bool) (vc vs : Value) (hl : s.regs.length = 8) : (refCells s r stale vc vs).length = 16 := by simp [refCells, stCells_length s r hl]
theorem Row.refC {w : World} {p : Nat} {e : TypeId} {s : Cs} {r : Int} {stale : Bool} {vc vs : Value} (h : Row w p e (refCells s r stale vc vs)) (hl : s.regs.length = 8) :
    w.cell? ⟨p, 0, none⟩ = some (.int .i64 s.pc) ∧ w.cell? ⟨p, 1, none⟩ = some (.int .i64 s.steps) ∧ w.cell? ⟨p, 2, none⟩ = some (.int .i64 s.code) ∧ w.cell? ⟨p, 3, none⟩ = some (.bool s.over) ∧ w.cell? ⟨p, 12, none⟩ = some (.int .i64 r) ∧ w.cell? ⟨p, 13, none⟩ = some (.bool stale) ∧ w.cell? ⟨p, 14, none⟩ = some vc ∧ w.cell? ⟨p, 15, none⟩ = some vs := by
  have h13 := stCells_length s r hl
  refine ⟨?_, ?_, ?_, ?_, ?_, ?_, ?_, ?_⟩
  · rw [h.cell]; rfl
  · rw [h.cell]; rfl
  · rw [h.cell]; rfl
  · rw [h.cell]; rfl
  · rw [h.cell, refCells, List.getElem?_append_left (by omega)]; exact stCells_root s r hl
  · rw [h.cell, refCells, List.getElem?_append_right (by omega), h13]; rfl
  · rw [h.cell, refCells, List.getElem?_append_right (by omega), h13]; rfl
  · rw [h.cell, refCells, List.getElem?_append_right (by omega), h13]; rfl
theorem Row.refReg {w : World} {p : Nat} {e : TypeId} {s : Cs} {r : Int} {stale : Bool} {vc vs : Value} (h : Row w p e (refCells s r stale vc vs)) (hl : s.regs.length = 8) (i : Int) (hi : 0 ≤ i ∧ i < 8) : w.cell? ⟨p, 4 + i.toNat, none⟩ = some (.int .i64 (s.reg i)) := by
  have h13 := stCells_length s r hl
  rw [h.cell, refCells, List.getElem?_append_left (by omega)]; exact stCells_reg s r hl i hi
theorem set_root (s : Cs) (r r' : Int) (hl : s.regs.length = 8) : (stCells s r).set 12 (.int .i64 r') = stCells s r' := by
  unfold stCells
  rw [List.set_append_right _ _ (by simp [regCells, hl])]
  simp [regCells, hl]
theorem refCells_fresh (s : Cs) (r r' : Int) (stale : Bool) (vc vs : Value) (hl : s.regs.length = 8) : ((refCells s r stale vc vs).set 12 (.int .i64 r')).set 13 (.bool false) = refCells s r' false vc vs := by
  have h13 := stCells_length s r hl
  have h13' := stCells_length s r' hl
  unfold refCells
  rw [List.set_append_left _ _ (by omega), set_root s r r' hl, List.set_append_right _ _ (by omega), h13']
  rfl
end Dp

set_option maxRecDepth 100000 in
set_option maxHeartbeats 1000000 in
theorem refNow (w : World) (p g : Nat) (vs : Value) (m : Dp.Mach) (h : Dp.RefM w p g vs m) :
    Calls Tryz.prog 56 #[.pointer (some ⟨p, 0, none⟩)] w fun e w' => e = .returned (Dp.stVal m.s (Dp.root m.cells)) ∧ Dp.Keeps (fun k => k = p) w w' ∧ Dp.RefM w' p g vs m := by
  obtain ⟨hok, ⟨r, stale, tail, h1, h2, h3, h4, h5, h6⟩, h7⟩ := h
  have hl := hok.s.len
  have hlt := h1.lt
  have hne : g ≠ p := h2.ne h1 (by decide)
  have hsp := h7.ne h1 (by decide)
  go_enter Tryz.func56, Tryz.ntmps56
  go_wp2_with (refine Dp.wpList_alloc_row rfl 53 rfl _ zeroState ?_)
  intro w1 r1 z1 k1
  have p1 := h1.keep k1 (fun e => e)
  have g1 := h2.keep k1 (fun e => e)
  obtain ⟨_, _, _, _, _, c13, c14, _⟩ := p1.refC hl
  have r1' := Dp.row_nil r1
  have hpz : p ≠ w.heap.size := by omega
  cases stale with
  | false =>
    have hr : r = Dp.root m.cells := h3 rfl
    subst hr
    have HR : Hid (Dp.Row w1 p 83 ([] ++ Dp.stCells m.s (Dp.root m.cells) ++ [.bool false, .slice (some ⟨g, 0, none⟩) 256 (256 + tail.length), vs])) := p1
    have HR3 := Hid.mk_ r1'
    have HM : Hid ((Dp.stCells m.s (Dp.root m.cells)).length = 13) := Dp.stCells_length _ _ hl
    clear r1' r1
    go_wp2_with (refine Dp.wpList_load_in rfl 53 _ rfl p 0 rfl 83 [] _ _ HR.out rfl _ Tryz.underlying53 rfl (by rw [sizeState, HM.out]) ?_)
    intro _
    go_wp2_with (refine Dp.wpList_store_in rfl 53 _ _ rfl w.heap.size 0 rfl (Dp.stCells m.s (Dp.root m.cells)) rfl 53 [] _ [] HR3.out rfl (by rw [HM.out]; rfl) (by rw [sizeState, HM.out]) (Dp.stCells_one _ _) ?_)
    intro w4 r4 z4 k4
    go_wp2
    have r4' : Dp.Row w4 w.heap.size 53 (Dp.stCells m.s (Dp.root m.cells)) := by simpa using r4
    refine bodyPost_ret (v := Dp.stVal m.s (Dp.root m.cells)) (results_cell_row rfl _ _ w.heap.size 53 _ (0, 0) _ rfl r4' Tryz.underlying53 rfl (by rw [sizeState, List.size_toArray, HM.out])) rfl ⟨rfl, ?_, ?_⟩
    · exact (k1.mono (fun _ _ e => e.elim)).next k4 (fun k hk e => by omega)
    · exact ⟨hok, ⟨_, _, tail, p1.keep k4 hpz, g1.keep k4 (by have := h2.lt; omega), fun _ => rfl, h4, h5, h6⟩, (h7.keep k1 (fun _ _ e => e)).keep k4 (fun q hq e => by have := h7.lt q hq; omega)⟩
  | true =>
    have f12 := p1.frozen 12
    have f13 := p1.frozen 13
    go_wp2_with fail
    refine (refDigest m.cells hok.cells hok.len g _ tail 8 0 _ _ _ (by omega) (by omega) g1 (by omega) (by omega)).mono ?_
    rintro e w2 ⟨rfl, k2⟩
    have p2 := p1.keep k2 (fun e => e)
    have g2 := g1.keep k2 (fun e => e)
    have q2 := (r1.keep k2 (fun e => e))
    have b2 := Dp.root_bd m.cells
    obtain ⟨_, _, _, _, c12, c13, c14, _⟩ := p2.refC hl
    have f12 := p2.frozen 12
    have f13 := p2.frozen 13
    have hroot : Dp.digest m.cells 0 8 = Dp.root m.cells := rfl
    rw [hroot]
    have k3 : Dp.Keeps (fun k => k = p) w w2 := (k1.trans k2).mono (fun _ _ e => e.elim)
    have s2 := (h7.keep k1 (fun _ _ e => e)).keep k2 (fun _ _ e => e)
    have HP : Hid (Dp.Row ((w2.setCell ⟨p, 12, none⟩ (.int .i64 (Dp.root m.cells))).setCell ⟨p, 13, none⟩ (.bool false)) p 83 ([] ++ Dp.stCells m.s (Dp.root m.cells) ++ [.bool false, .slice (some ⟨g, 0, none⟩) 256 (256 + tail.length), vs])) := by
      have h := (p2.set 12 (.int .i64 (Dp.root m.cells))).set 13 (.bool false)
      rw [Dp.refCells_fresh _ _ _ _ _ _ hl] at h
      exact h
    have HR3 : Hid (Dp.Row ((w2.setCell ⟨p, 12, none⟩ (.int .i64 (Dp.root m.cells))).setCell ⟨p, 13, none⟩ (.bool false)) w.heap.size 53 ([] ++ Dp.stCells ⟨0, 0, 0, false, [0, 0, 0, 0, 0, 0, 0, 0]⟩ 0 ++ [])) := Dp.row_nil ((q2.setOther _ _ (show w.heap.size ≠ p by omega)).setOther _ _ (show w.heap.size ≠ p by omega))
    have HM : Hid ((Dp.stCells m.s (Dp.root m.cells)).length = 13) := Dp.stCells_length _ _ hl
    have HK : Hid (Dp.Keeps (fun k => k = p) w ((w2.setCell ⟨p, 12, none⟩ (.int .i64 (Dp.root m.cells))).setCell ⟨p, 13, none⟩ (.bool false))) := (k3.setCell (.inr rfl) _).setCell (.inr rfl) _
    have HG : Hid (Dp.Row ((w2.setCell ⟨p, 12, none⟩ (.int .i64 (Dp.root m.cells))).setCell ⟨p, 13, none⟩ (.bool false)) g 3 (Dp.regCells m.cells ++ tail)) := (g2.setOther _ _ hne).setOther _ _ hne
    have HS : Hid (Dp.Own ((w2.setCell ⟨p, 12, none⟩ (.int .i64 (Dp.root m.cells))).setCell ⟨p, 13, none⟩ (.bool false)) 9 vs (Dp.strCells m.srcs)) := s2.keep (((Dp.Keeps.refl (fun k => k = p) w2).setCell (p := ⟨p, 12, none⟩) (.inr rfl) _).setCell (p := ⟨p, 13, none⟩) (.inr rfl) _) hsp
    clear r1' r1 p1 g1 q2 p2 g2 hroot
    go_wp2_with (refine Dp.wpList_load_in rfl 53 _ rfl p 0 rfl 83 [] _ _ HP.out rfl _ Tryz.underlying53 rfl (by rw [sizeState, HM.out]) ?_)
    intro _
    go_wp2_with (refine Dp.wpList_store_in rfl 53 _ _ rfl w.heap.size 0 rfl (Dp.stCells m.s (Dp.root m.cells)) rfl 53 [] _ [] HR3.out rfl (by rw [HM.out]; rfl) (by rw [sizeState, HM.out]) (Dp.stCells_one _ _) ?_)
    intro w4 r4 z4 k4
    go_wp2
    have r4' : Dp.Row w4 w.heap.size 53 (Dp.stCells m.s (Dp.root m.cells)) := by simpa using r4
    refine bodyPost_ret (v := Dp.stVal m.s (Dp.root m.cells)) (results_cell_row rfl _ _ w.heap.size 53 _ (0, 0) _ rfl r4' Tryz.underlying53 rfl (by rw [sizeState, List.size_toArray, HM.out])) rfl ⟨rfl, ?_, ?_⟩
    · exact HK.out.next k4 (fun k hk e => by omega)
    · have hp4 : Dp.Row w4 p 83 (Dp.refCells m.s (Dp.root m.cells) false (.slice (some ⟨g, 0, none⟩) 256 (256 + tail.length)) vs) := HP.out.keep k4 hpz
      exact ⟨hok, ⟨_, _, tail, hp4, HG.out.keep k4 (by have := h2.lt; omega), fun _ => rfl, b2.1, by omega, h6⟩, HS.out.keep k4 (fun q hq e => by have := h7.lt q hq; omega)⟩

theorem refStamp (w : World) (p g : Nat) (vs : Value) (m : Dp.Mach) (h : Dp.RefM w p g vs m) :
    Calls Tryz.prog 32 #[.pointer (some ⟨p, 0, none⟩)] w fun e w' => e = .returned (.int .i64 (Dp.stamp m.s (Dp.root m.cells))) ∧ Dp.Keeps (fun k => k = p) w w' ∧ Dp.RefM w' p g vs m := by
  have hb := Dp.root_bd m.cells
  have hlen := Dp.label_length m.s (Dp.root m.cells) h.ok.s.len
  have hlt := h.lt
  go_enter Tryz.func32, Tryz.ntmps32
  go_wp2_with fail
  refine (refNow w p g vs m h).mono ?_
  rintro e w1 ⟨rfl, k1, m1⟩
  go_wp2_with fail
  refine (refLabel _ _ _ h.ok.s (by omega)).mono ?_
  rintro e w2 ⟨rfl, k2⟩
  go_wp2_with fail
  refine (refSum _ _ (by rw [Dp.str_size, hlen]; simp [maxLen])).mono ?_
  rintro e w3 ⟨rfl, rfl⟩
  rw [Dp.str_data]
  go_wp2
  go_ret
  exact ⟨rfl, k1.next k2 (fun _ _ e => e.elim), m1.keep k2 (fun e => e) (fun e => e) (fun _ _ e => e)⟩

namespace Dp
/-- Which source is called so; -1: none. -/
def findIdx (l : List (List UInt8)) (name : Int) : Int := match l.findIdx? (fun x => sum x == name) with | some k => (k : Int) | none => -1
theorem Own.strAt {w : World} {e : TypeId} {vs : Value} {l : List (List UInt8)} (h : Own w e vs (strCells l)) (hl : l.length ≤ 8) : ∃ ad cap, vs = .slice ad l.length cap ∧ (l ≠ [] → ∃ b, ad = some ⟨b, 0, none⟩ ∧ ∀ j (hj : j < l.length), w.cell? ⟨b, j, none⟩ = some (.string (str l[j]))) := by
  rcases h with ⟨rfl, h0⟩ | ⟨b, tail, rfl, hr, hm⟩
  · have : l = [] := by simpa [strCells] using h0
    subst this
    exact ⟨none, 0, rfl, fun h => absurd rfl h⟩
  · refine ⟨_, _, by simp [strCells]; rfl, fun _ => ⟨b, rfl, fun j hj => ?_⟩⟩
    rw [hr.cell, List.getElem?_append_left (by simpa [strCells] using hj)]
    simp [strCells, hj]
theorem findIdx_hit (l : List (List UInt8)) (name : Int) (k : Nat) (hk : k < l.length) (h : ∀ j (hj : j < k), (sum (l[j]'(by omega)) == name) = false) (hit : (sum l[k] == name) = true) : findIdx l name = k := by
  have : l.findIdx? (fun x => sum x == name) = some k := by
    rw [List.findIdx?_eq_some_iff_getElem]
    exact ⟨hk, hit, fun j hj => by simpa using h j hj⟩
  unfold findIdx
  rw [this]
theorem findIdx_miss (l : List (List UInt8)) (name : Int) (h : ∀ j (hj : j < l.length), (sum l[j] == name) = false) : findIdx l name = -1 := by
  have : l.findIdx? (fun x => sum x == name) = none := by
    rw [List.findIdx?_eq_none_iff]
    intro x hx
    obtain ⟨j, hj, rfl⟩ := List.getElem_of_mem hx
    exact h j hj
  unfold findIdx
  rw [this]
theorem findIdx_cases (l : List (List UInt8)) (name : Int) : (findIdx l name = -1 ∧ findSrc l name = none) ∨ ∃ k, ∃ h : k < l.length, findIdx l name = (k : Int) ∧ findSrc l name = some l[k] := by
  unfold findIdx findSrc
  cases hf : l.findIdx? (fun x => sum x == name) with
  | none =>
    refine .inl ⟨rfl, ?_⟩
    rw [List.find?_eq_none]
    intro x hx
    have := List.findIdx?_eq_none_iff.1 hf x hx
    simpa using this
  | some k =>
    obtain ⟨hk, h1, h2⟩ := List.findIdx?_eq_some_iff_getElem.1 hf
    refine .inr ⟨k, hk, rfl, ?_⟩
    rw [List.find?_eq_some_iff_getElem]
    exact ⟨h1, k, hk, rfl, fun j hj => by simpa using h2 j hj⟩
end Dp

set_option maxHeartbeats 400000 in
theorem refSource (w : World) (p g : Nat) (vs : Value) (m : Dp.Mach) (h : Dp.RefM w p g vs m) (name : Int) :
    Calls Tryz.prog 53 #[.pointer (some ⟨p, 0, none⟩), .int .i64 name] w fun e w' => e = .returned (.int .i64 (Dp.findIdx m.srcs name)) ∧ w' = w := by
  obtain ⟨hok, ⟨r, stale, tail, h1, h2, h3, h4, h5, h6⟩, h7⟩ := h
  have hl := hok.s.len
  obtain ⟨_, _, _, _, _, _, _, c15⟩ := h1.refC hl
  have hn := hok.srcs
  obtain ⟨ad, cap, rfl, hcell⟩ := h7.strAt hn
  clear h1 h2 h3 h4 h5 h6 h7
  go_enter Tryz.func53, Tryz.ntmps53
  go_wp2
  go_loop [5] (fun i => ∃ k : Nat, k ≤ m.srcs.length ∧ i = .int .i64 k ∧ ∀ j (hj : j < k) (hj' : j < m.srcs.length), (Dp.sum m.srcs[j] == name) = false) (fun i => m.srcs.length - (intOf i).toNat)
  case atStart => exact ⟨0, Nat.zero_le _, rfl, fun j hj => absurd hj (by omega)⟩
  case round =>
    obtain ⟨k, hk, rfl, hno⟩ := hrel
    have HNO := Hid.mk_ hno
    clear hno
    by_cases hlt : k < m.srcs.length
    · obtain ⟨b, rfl, hc⟩ := hcell (by intro e; simp [e] at hlt)
      have ck := hc k hlt
      have hsz : m.srcs[k].length ≤ 200 := hok.src _ (List.getElem_mem hlt)
      clear hc hcell
      go_wp2_with fail
      refine (refSum _ _ (by rw [Dp.str_size]; unfold maxLen; omega)).mono ?_
      rintro e w3 ⟨rfl, rfl⟩
      rw [Dp.str_data]
      cases hit : (Dp.sum m.srcs[k] == name) with
      | true =>
        go_wp2
        go_ret
        exact ⟨Dp.ret_int (Dp.findIdx_hit _ _ k hlt (fun j hj => HNO.out j hj (by omega)) hit).symm, rfl⟩
      | false =>
        have HIT := Hid.mk_ hit
        go_wp2
        go_round
        case rel => exact ⟨k + 1, by omega, by go_num, fun j hj hj' => by
          by_cases e : j = k
          · subst e; exact HIT.out
          · exact HNO.out j (by omega) hj'⟩
        case measure => simp [intOf]; omega
    · obtain rfl : k = m.srcs.length := by omega
      go_wp2
      go_ret
      exact ⟨Dp.ret_int (Dp.findIdx_miss _ _ (fun j hj => HNO.out j hj hj)).symm, rfl⟩

end Go.Proofs.YtjngfebacobegaaGreatDoor
