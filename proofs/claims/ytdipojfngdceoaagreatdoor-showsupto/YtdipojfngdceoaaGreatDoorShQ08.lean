/- Steps on the way: RefLabel. -/
import Derived.Test.YtdipojfngdceoaaGreatDoorShQ02
import Derived.Test.YtdipojfngdceoaaGreatDoorShQ07
import Derived.Test.YtdipojfngdceoaaGreatDoorProg
import Derived.WalkKit
import Derived.WalkSpells
import Derived.WalkLawsBesides
import Derived.Deep.RegionHeld3
import Derived.Deep.DeepCutAuto
namespace Go.Proofs.YtdipojfngdceoaaGreatDoor
open Go.RowKit
namespace Dp
theorem flat_four (l : List Int) : ((l.map four).flatten).length = 4 * l.length := by
 induction l with
 | nil => rfl
 | cons x l ih => simp [ih, four_length]; omega
theorem label_bd (s : Cs) (ob : UInt8) (k : Nat) (hk : k ≤ 8) : (four s.pc ++ (four s.steps ++ (four s.code ++ [ob])) ++ ((s.regs.take k).map four).flatten).length ≤ 100 := by
 rw [List.length_append, flat_four]
 simp [four_length]
 omega
theorem stCells_root (s : Cs) (root : Int) (hl : s.regs.length = 8) : (stCells s root)[12]? = some (.int .i64 root) := by
 unfold stCells
 rw [List.getElem?_append_right (by simp [regCells, hl])]
 simp [regCells, hl]
theorem label_length (s : Cs) (root : Int) (hl : s.regs.length = 8) : (label s root).length = 47 := by
 unfold label
 simp only [List.length_append, flat_four, four_length, two_length, hl]
 rfl
end Dp
set_option maxRecDepth 100000 in
set_option maxHeartbeats 1000000 in
theorem refLabel (s : Dp.Cs) (root : Int) (w : World) (hs : s.Ok) (hr : 0 ≤ root ∧ root < 65536) :
  Calls Tryz.prog 92 #[Dp.stVal s root] w fun e w' => e = .returned (.string (Dp.str (Dp.label s root))) ∧ Dp.Keeps (fun _ => False) w w' := by
 have hpc := hs.pc
 have hst := hs.steps
 have hco := hs.code
 unfold Dp.isWord at hpc hst hco
 go_enter Tryz.func92, Tryz.ntmps92
 go_wp2_with (refine Dp.wpList_box_row rfl 74 _ rfl (Dp.stCells s root) rfl ?_)
 intro w1 r1 z1 k1
 have HS : Hid (∀ wx, Dp.Keeps (fun _ => False) w1 wx → (wx.cell? ⟨w.heap.size, 0, none⟩ = some (.int .i64 s.pc) ∧ wx.cell? ⟨w.heap.size, 1, none⟩ = some (.int .i64 s.steps) ∧ wx.cell? ⟨w.heap.size, 2, none⟩ = some (.int .i64 s.code) ∧ Dp.Keeps (fun _ => False) w1 wx)) := by
  intro wx kx
  obtain ⟨c0, c1, c2, _⟩ := (r1.keep kx (fun e => e)).st
  exact ⟨c0, c1, c2, kx⟩
 have q1 := Dp.str_size
 have q2 := Dp.four_length
 have q3 := Dp.str_append
 go_wp2
 go_region_held3 (fun wx => wx.cell? ⟨w.heap.size, 0, none⟩ = some (.int .i64 s.pc) ∧ wx.cell? ⟨w.heap.size, 1, none⟩ = some (.int .i64 s.steps) ∧ wx.cell? ⟨w.heap.size, 2, none⟩ = some (.int .i64 s.code) ∧ Dp.Keeps (fun _ => False) w1 wx)
  (first | exact HS.out _ (Dp.Keeps.drew (Dp.Keeps.refl _ _)) | (go_split_ands; first | exact HS.out _ (by assumption) | exact HS.out _ (Dp.Keeps.trans (by assumption) k')))
  ((go_at_call 82; refine (refFour _ _ (by omega)).mono ?_; rintro e w' ⟨rfl, k'⟩))
 rename_i hHeld
 obtain ⟨_, _, _, kq⟩ := hHeld
 have rq := r1.keep kq (fun e => e)
 obtain ⟨_, _, _, c3⟩ := rq.st
 have kw : Dp.Keeps (fun _ => False) w w' := k1.trans kq
 generalize hob : (if s.over then 1 else 0 : UInt8) = ob
 have HL : Hid (Dp.label s root = Dp.four s.pc ++ (Dp.four s.steps ++ (Dp.four s.code ++ [ob])) ++ (s.regs.map Dp.four).flatten ++ Dp.two root) := by
  unfold Hid Dp.label; rw [hob]; simp
 have q4 : (⟨#[1]⟩ : ByteArray) = Dp.str [1] := rfl
 have q5 : (⟨#[0]⟩ : ByteArray) = Dp.str [0] := rfl
 have HO : Hid ((if s.over then 1 else 0 : UInt8) = ob) := hob
 have q6 : ∀ x : UInt8, [x].length = 1 := fun _ => rfl
 clear k' kq r1 z1 k1 HS hob
 go_upto_if 17 with (fail)
 go_cut [3] (fun t wx => t = .string (Dp.str (Dp.four s.pc ++ (Dp.four s.steps ++ (Dp.four s.code ++ [ob])))) ∧ wx = w')
 case first =>
  cases ho : s.over with
  | true =>
   have hob : ob = 1 := by rw [← HO.out, ho]; rfl
   subst hob
   go_wp2
   go_meet
   case rel => exact ⟨rfl, rfl⟩
  | false =>
   have hob : ob = 0 := by rw [← HO.out, ho]; rfl
   subst hob
   go_wp2
   go_meet
   case rel => exact ⟨rfl, rfl⟩
 case rest =>
  obtain ⟨rfl, rfl⟩ := hcut
  clear c3 q4 q5 q6
  go_wp2
  go_loopw [3, 4] (fun t i wx => ∃ k : Nat, k ≤ 8 ∧ i = .int .i64 k ∧ t = .string (Dp.str (Dp.four s.pc ++ (Dp.four s.steps ++ (Dp.four s.code ++ [ob])) ++ ((s.regs.take k).map Dp.four).flatten)) ∧ Dp.Row wx w.heap.size 74 (Dp.stCells s root) ∧ Dp.Keeps (fun _ => False) w wx) (fun _ i _ => 8 - (intOf i).toNat)
  case atStart => exact ⟨0, Nat.zero_le _, rfl, by simp, rq, kw⟩
  case round =>
   obtain ⟨k, hk, rfl, rfl, rk, kk⟩ := hrel
   clear rq kw
   by_cases hlt : k < 8
   ·have hlen : k < s.regs.length := by rw [hs.len]; exact hlt
    have hreg := hs.reg (k : Int)
    unfold Dp.isWord at hreg
    have ck := rk.stReg hs.len (k : Int) (by omega)
    rw [Int.toNat_natCast] at ck
    have hpl : (Dp.four s.pc ++ (Dp.four s.steps ++ (Dp.four s.code ++ [ob])) ++ ((s.regs.take k).map Dp.four).flatten).length ≤ 100 := Dp.label_bd s ob k hk
    have HK : Hid (∀ x, Dp.str (Dp.four s.pc ++ (Dp.four s.steps ++ (Dp.four s.code ++ [ob])) ++ ((s.regs.take k).map Dp.four).flatten) = x → x ++ Dp.str (Dp.four (s.reg k)) = Dp.str (Dp.four s.pc ++ (Dp.four s.steps ++ (Dp.four s.code ++ [ob])) ++ ((s.regs.take (k + 1)).map Dp.four).flatten)) := by
     rintro x rfl
     rw [Dp.str_append, List.take_succ_eq_append_getElem hlen, List.map_append, List.flatten_append, ← List.append_assoc]
     simp [Dp.Cs.reg, hlen]
    have hsz := Dp.str_size (Dp.four s.pc ++ (Dp.four s.steps ++ (Dp.four s.code ++ [ob])) ++ ((s.regs.take k).map Dp.four).flatten)
    clear q1 q3
    generalize Dp.str (Dp.four s.pc ++ (Dp.four s.steps ++ (Dp.four s.code ++ [ob])) ++ ((s.regs.take k).map Dp.four).flatten) = X at *
    generalize (Dp.four s.pc ++ (Dp.four s.steps ++ (Dp.four s.code ++ [ob])) ++ ((s.regs.take k).map Dp.four).flatten).length = L at *
    go_wp2_with fail
    refine (refFour _ _ (by omega)).mono ?_
    rintro e w2 ⟨rfl, k2⟩
    have hz4 := Dp.str_size (Dp.four (s.reg k))
    rw [Dp.four_length] at hz4
    go_wp2
    go_roundw
    case rel => exact ⟨k + 1, by omega, by go_num, by rw [HK.out X rfl], rk.keep k2 (fun e => e), kk.trans k2⟩
    case measure => simp [intOf]; omega
   ·obtain rfl : k = 8 := by omega
    have hpl := Dp.label_bd s ob 8 (Nat.le_refl _)
    have hrt : (s.regs.take 8) = s.regs := List.take_of_length_le (by rw [hs.len]; exact Nat.le_refl _)
    rw [hrt] at hpl ⊢
    have c12 : wr.cell? ⟨w.heap.size, 12, none⟩ = some (.int .i64 root) := by rw [rk.cell]; exact Dp.stCells_root s root hs.len
    have hsz := Dp.str_size (Dp.four s.pc ++ (Dp.four s.steps ++ (Dp.four s.code ++ [ob])) ++ (s.regs.map Dp.four).flatten)
    have HK : Hid (Dp.str (Dp.four s.pc ++ (Dp.four s.steps ++ (Dp.four s.code ++ [ob])) ++ (s.regs.map Dp.four).flatten) ++ Dp.str (Dp.two root) = Dp.str (Dp.label s root)) := by
     unfold Hid; rw [Dp.str_append, HL.out]
    clear q1 q3 hrt
    generalize Dp.str (Dp.four s.pc ++ (Dp.four s.steps ++ (Dp.four s.code ++ [ob])) ++ (s.regs.map Dp.four).flatten) = X at *
    generalize (Dp.four s.pc ++ (Dp.four s.steps ++ (Dp.four s.code ++ [ob])) ++ (s.regs.map Dp.four).flatten).length = L at *
    go_wp2_with fail
    refine (refTwo _ _ (by omega)).mono ?_
    rintro e w2 ⟨rfl, k2⟩
    have hz2 := Dp.str_size (Dp.two root)
    rw [Dp.two_length] at hz2
    go_wp2
    go_ret
    exact ⟨Dp.ret_str HK.out, kk.trans k2⟩
end Go.Proofs.YtdipojfngdceoaaGreatDoor
