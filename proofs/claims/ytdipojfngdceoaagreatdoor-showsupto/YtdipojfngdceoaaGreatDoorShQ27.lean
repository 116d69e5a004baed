/- Steps on the way: ProgParts, ProgCutProof. -/
import Derived.Test.YtdipojfngdceoaaGreatDoorShQ01
import Derived.Test.YtdipojfngdceoaaGreatDoorShQ02
import Derived.Test.YtdipojfngdceoaaGreatDoorShQ03
import Derived.Test.YtdipojfngdceoaaGreatDoorShQ04
import Derived.Test.YtdipojfngdceoaaGreatDoorShQ18
import Derived.Test.YtdipojfngdceoaaGreatDoorProg
import Derived.WalkKit
import Derived.WalkSpells
import Derived.WalkLawsBesides
import Derived.Laws.BitsLemmas
namespace Go.Proofs.YtdipojfngdceoaaGreatDoor
open Go.RowKit
namespace Dp
def Cutting (w : World) (v : Value) (l : List UInt8) : Prop :=
 ∃ ad cap, v = .slice ad l.length cap ∧ l.length ≤ cap ∧ cap ≤ maxLen ∧ (l ≠ [] → ∃ b o, ad = some ⟨b, o, none⟩ ∧ ∀ j (h : j < l.length), w.cell? ⟨b, o + j, none⟩ = some (.int .u8 (l[j].toNat : Int)))
theorem Cutting.bytes {w : World} {v : Value} {l : List UInt8} (h : Cutting w v l) : Bytes w v l := by
 obtain ⟨ad, cap, h1, h2, h3, h4⟩ := h
 by_cases he : l = []
 ·subst he
  exact ⟨0, 0, ad, cap, h1, by omega, fun e => absurd rfl e, fun j hj => absurd hj (Nat.not_lt_zero _)⟩
 ·obtain ⟨b, o, h5, h6⟩ := h4 he
  exact ⟨b, o, ad, cap, h1, by omega, fun _ => h5, h6⟩
theorem Cutting.still {w w' : World} {v : Value} {l : List UInt8} (h : Cutting w v l) (k : Keeps (fun _ => False) w w') : Cutting w' v l := by
 obtain ⟨ad, cap, h1, h2, h3, h4⟩ := h
 refine ⟨ad, cap, h1, h2, h3, fun he => ?_⟩
 obtain ⟨b, o, h5, h6⟩ := h4 he
 exact ⟨b, o, h5, fun j hj => (k.cell (p := ⟨b, o + j, none⟩) (cell_lt (h6 j hj)) (fun e => e)).trans (h6 j hj)⟩
theorem Cutting.take {w : World} {ad : Option Addr} {cap : Nat} {l : List UInt8} (n : Nat) (hn : n ≤ l.length) (h : Cutting w (.slice ad l.length cap) l) (ad' : Option Addr) (ha : n ≠ 0 → ad' = ad.map (·.add 0)) : Cutting w (.slice ad' n n) (l.take n) := by
 obtain ⟨ad0, cap0, h1, h2, h3, h4⟩ := h
 simp only [Value.slice.injEq, true_and] at h1
 obtain ⟨rfl, rfl⟩ := h1
 have hl : (l.take n).length = n := by rw [List.length_take]; omega
 refine ⟨ad', n, by rw [hl], by omega, by omega, fun he => ?_⟩
 have hn0 : n ≠ 0 := by rintro rfl; simp at he
 obtain ⟨b, o, h5, h6⟩ := h4 (by rintro rfl; simp at he)
 refine ⟨b, o, ?_, fun j hj => ?_⟩
 ·rw [ha hn0, h5]; simp [Addr.add]
 ·rw [hl] at hj
  have := h6 j (by omega)
  rw [this]; simp
theorem Cutting.drop {w : World} {ad : Option Addr} {cap : Nat} {l : List UInt8} (n : Nat) (hn : n ≤ l.length) (h : Cutting w (.slice ad l.length cap) l) (ad' : Option Addr) (ha : n ≠ cap → ad' = ad.map (·.add n)) : Cutting w (.slice ad' (l.length - n) (cap - n)) (l.drop n) := by
 obtain ⟨ad0, cap0, h1, h2, h3, h4⟩ := h
 simp only [Value.slice.injEq, true_and] at h1
 obtain ⟨rfl, rfl⟩ := h1
 have hl : (l.drop n).length = l.length - n := List.length_drop
 refine ⟨ad', cap - n, by rw [hl], by omega, by omega, fun he => ?_⟩
 have hn0 : n < l.length := by
  rcases Nat.lt_or_ge n l.length with h | h
  ·exact h
  ·exact absurd (List.drop_eq_nil_of_le h) he
 obtain ⟨b, o, h5, h6⟩ := h4 (by rintro rfl; simp at hn0)
 refine ⟨b, o + n, ?_, fun j hj => ?_⟩
 ·rw [ha (by omega), h5]
  simp [Addr.add]
 ·rw [hl] at hj
  have := h6 (n + j) (by omega)
  rw [Nat.add_assoc, this]; simp
structure PartsAt (w0 : World) (p : Nat) (w : World) (l : List UInt8) : Prop where
 new : w0.heap.size ≤ p
 row : ∃ v, Row w p 188 [v] ∧ Cutting w0 v l
 kept : Keeps (fun _ => False) w0 w
theorem PartsAt.keep {S : Nat → Prop} {w0 w w' : World} {p : Nat} {l : List UInt8} (h : PartsAt w0 p w l) (k : Keeps S w w') (hp : ¬ S p) (hS : ∀ i, i < w0.heap.size → ¬ S i) : PartsAt w0 p w' l := by
 obtain ⟨v, h1, h2⟩ := h.row
 exact ⟨h.new, ⟨v, h1.keep k hp, h2⟩, h.kept.next k (fun i hi s => hS i hi s)⟩
def wrong (eb : Addr) : List PanicEntry := [{ v := .iface 202 (.pointer (some eb)), recovered := false }]
def ErrAt (w : World) (eb : Addr) : Prop := w.cell? ⟨0, 0, none⟩ = some (.iface 202 (.pointer (some eb)))
theorem ErrAt.keep {w w' : World} {eb : Addr} (h : ErrAt w eb) (k : Keeps (fun _ => False) w w') : ErrAt w' eb := (k.cell (p := ⟨0, 0, none⟩) (cell_lt h) (fun e => e)).trans h
end Dp
set_option maxRecDepth 100000 in
set_option maxHeartbeats 400000 in
theorem progReqT (x : Value) (w : World) :
  Calls Tryz.prog 121 #[x, .bool true] w fun e w' => e = .returned (.tuple #[]) ∧ w' = w := by
 go_enter Tryz.func121, Tryz.ntmps121
 go_wp2
 go_end0
 exact ⟨rfl, rfl⟩
set_option maxRecDepth 100000 in
set_option maxHeartbeats 400000 in
theorem progReqF (x : Value) (eb : Addr) (w : World) (he : Dp.ErrAt w eb) :
  Calls Tryz.prog 121 #[x, .bool false] w fun e w' => e = .panicked (Dp.wrong eb) ∧ w' = w := by
 unfold Dp.ErrAt at he
 go_enter Tryz.func121, Tryz.ntmps121
 go_wp2
 exact ⟨rfl, rfl, rfl⟩
set_option maxRecDepth 100000 in
set_option maxHeartbeats 400000 in
theorem progOf (ad : Option Addr) (n cap : Nat) (w : World) :
  Calls Tryz.prog 101 #[.slice ad n cap] w fun e w' => e = .returned (.pointer (some ⟨w.heap.size, 0, none⟩)) ∧ Dp.Row w' w.heap.size 188 [.slice ad n cap] ∧ w'.heap.size = w.heap.size + 1 ∧ Dp.Keeps (fun _ => False) w w' := by
 go_enter Tryz.func101, Tryz.ntmps101
 go_wp2
 go_ret
 exact ⟨rfl, Dp.Row.allocNew w 188 [.slice ad n cap], by simp, (Dp.Keeps.refl _ _).alloc _⟩
set_option maxRecDepth 100000 in
set_option maxHeartbeats 400000 in
theorem progCut (w0 : World) (p : Nat) (eb : Addr) (n : Nat) (l : List UInt8) (w : World) (he : Dp.ErrAt w0 eb) (h : Dp.PartsAt w0 p w l) (hn : n ≤ 16777216) :
  Calls Tryz.prog 154 #[.pointer (some ⟨p, 0, none⟩), .int .i64 n] w fun e w' => Dp.after (if n ≤ l.length then some () else none) (e = .panicked (Dp.wrong eb) ∧ w' = w) fun _ => ∃ v, e = .returned v ∧ Dp.Cutting w0 v (l.take n) ∧ Dp.PartsAt w0 p w' (l.drop n) ∧ Dp.Keeps (fun k => k = p) w w' ∧ w'.heap.size = w.heap.size := by
 have he' := he.keep h.kept
 obtain ⟨v, hr, hc⟩ := h.row
 have hcc := hc
 obtain ⟨ad, cap, rfl, h2, h3, _⟩ := hc
 have c0 := hr.cellAt 0 (by simp)
 have f0 := hr.frozen 0
 simp only [List.getElem_cons_zero] at c0
 have HH := Hid.mk_ h
 unfold maxLen at h3
 by_cases hle : n ≤ l.length
 ·have HT : Hid (∀ ad', (n ≠ 0 → ad' = ad.map (·.add 0)) → Dp.Cutting w0 (.slice ad' n n) (l.take n)) := fun ad' h => Dp.Cutting.take n hle hcc ad' h
  have HD : Hid (∀ ad', (n ≠ cap → ad' = ad.map (·.add n)) → Dp.Cutting w0 (.slice ad' (l.length - n) (cap - n)) (l.drop n)) := fun ad' h => Dp.Cutting.drop n hle hcc ad' h
  have g1 : (n : Int) ≤ (l.length : Int) := by omega
  have g2 : (n : Int) ≤ (cap : Int) := by omega
  have HR := Hid.mk_ hr
  clear hr h hcc
  by_cases hcap : cap = n
  ·subst hcap
   go_enter Tryz.func154, Tryz.ntmps154
   go_wp2_with fail
   refine (progReqT _ _).mono ?_
   rintro e w1 ⟨rfl, rfl⟩
   go_wp2
   go_ret
   rw [Dp.after_some]
   refine ⟨_, rfl, HT.out _ (fun _ => by cases ad <;> simp [Addr.add]), ⟨HH.out.new, ⟨_, HR.out.set 0 _, ?_⟩, HH.out.kept.setCell (.inl HH.out.new) _⟩, Dp.Keeps.setCell (S := fun k => k = p) (p := ⟨p, 0, none⟩) (Dp.Keeps.refl _ _) (.inr rfl) _, by simp⟩
   have := HD.out ad (fun e => absurd rfl e)
   rw [Nat.sub_self, show l.length - cap = 0 by omega] at this
   exact this
  ·go_enter Tryz.func154, Tryz.ntmps154
   go_wp2_with fail
   refine (progReqT _ _).mono ?_
   rintro e w1 ⟨rfl, rfl⟩
   go_wp2
   go_ret
   rw [Dp.after_some]
   exact ⟨_, rfl, HT.out _ (fun _ => by cases ad <;> simp [Addr.add]), ⟨HH.out.new, ⟨_, HR.out.set 0 _, HD.out _ (fun _ => by cases ad <;> simp [Addr.add])⟩, HH.out.kept.setCell (.inl HH.out.new) _⟩, Dp.Keeps.setCell (S := fun k => k = p) (p := ⟨p, 0, none⟩) (Dp.Keeps.refl _ _) (.inr rfl) _, by simp⟩
 ·go_enter Tryz.func154, Tryz.ntmps154
  go_wp2_with fail
  refine (progReqF _ eb _ he').mono ?_
  rintro e w1 ⟨rfl, rfl⟩
  exact ⟨rfl, by rw [if_neg hle]; exact ⟨rfl, rfl⟩⟩
set_option maxRecDepth 100000 in
set_option maxHeartbeats 400000 in
theorem progQByte (w0 : World) (p : Nat) (eb : Addr) (l : List UInt8) (w : World) (he : Dp.ErrAt w0 eb) (h : Dp.PartsAt w0 p w l) :
  Calls Tryz.prog 149 #[.pointer (some ⟨p, 0, none⟩)] w fun e w' => Dp.after (if 1 ≤ l.length then some () else none) (e = .panicked (Dp.wrong eb) ∧ w' = w) fun _ => e = .returned (.int .u8 ((l.getD 0 0).toNat : Int)) ∧ Dp.PartsAt w0 p w' (l.drop 1) ∧ Dp.Keeps (fun k => k = p) w w' ∧ w'.heap.size = w.heap.size := by
 go_enter Tryz.func149, Tryz.ntmps149
 go_wp2_with fail
 refine (progCut w0 p eb 1 l _ he h (by omega)).mono ?_
 intro e w1 h1
 by_cases hle : 1 ≤ l.length
 ·rw [if_pos hle, Dp.after_some] at h1
  obtain ⟨v, rfl, hc, hp1, k1, z1⟩ := h1
  obtain ⟨ad, cap, rfl, h2, h3, h4⟩ := hc
  have hl1 : (l.take 1).length = 1 := by rw [List.length_take]; omega
  obtain ⟨b, o, rfl, h6⟩ := h4 (by intro e; rw [e] at hl1; simp at hl1)
  have hcell := h6 0 (by omega)
  have hk := (hp1.kept.cell (p := ⟨b, o + 0, none⟩) (Dp.cell_lt hcell) (fun e => e)).trans hcell
  have hv : (l.take 1)[0]'(by omega) = l.getD 0 0 := by simp [List.getD_eq_getElem?_getD, List.getElem?_eq_getElem hle]
  rw [hv, Nat.add_zero] at hk
  rw [hl1]
  clear hcell h6 h4 h hv
  have HP := Hid.mk_ hp1
  clear hp1
  go_wp2
  go_ret
  rw [Dp.after_some]
  exact ⟨rfl, by have := HP.out; rwa [List.drop_one] at this, k1, z1⟩
 ·rw [if_neg hle, Dp.after_none] at h1
  obtain ⟨rfl, rfl⟩ := h1
  exact ⟨rfl, by rw [if_neg hle]; exact ⟨rfl, rfl⟩⟩
namespace Dp
theorem numTo_two_of (l : List UInt8) : numTo l 0 2 = ((l.getD 0 0).toNat : Int) * 256 + ((l.getD 1 0).toNat : Int) := by
 simp [numTo]
theorem or_i64 (x b : Int) (hx : 0 ≤ x ∧ x < 256) (hb : 0 ≤ b ∧ b < 256) : Go.bits .or .i64 (x * 256) b = x * 256 + b := by
 obtain ⟨k, rfl⟩ := Int.eq_ofNat_of_zero_le hx.1
 obtain ⟨j, rfl⟩ := Int.eq_ofNat_of_zero_le hb.1
 have h := (bits_nat .i64 32 (by decide) (fun n h0 h1 => by rw [IntKind.wrap_i64]; omega) (k * 256) j (by omega) (by omega)).2
 rw [show ((k * 256 : Nat) : Int) = (k : Int) * 256 by simp] at h
 rw [h]
 have e : k * 256 ||| j = k * 256 + j := by
  have := Nat.two_pow_add_eq_or_of_lt (i := 8) (b := j) (by omega) k
  rw [show (2 : Nat) ^ 8 = 256 from rfl, Nat.mul_comm] at this
  exact this.symm
 rw [e]; simp
theorem or_u32 (x b : Int) (hx : 0 ≤ x ∧ x < 65536) (hb : 0 ≤ b ∧ b < 65536) : Go.bits .or .u32 (x * 65536) b = x * 65536 + b := by
 obtain ⟨k, rfl⟩ := Int.eq_ofNat_of_zero_le hx.1
 obtain ⟨j, rfl⟩ := Int.eq_ofNat_of_zero_le hb.1
 have h := (bits_u32_nat (k * 65536) j (by omega) (by omega)).2.1
 rw [show ((k * 65536 : Nat) : Int) = (k : Int) * 65536 by simp] at h
 rw [h]
 have e : k * 65536 ||| j = k * 65536 + j := by
  have := Nat.two_pow_add_eq_or_of_lt (i := 16) (b := j) (by omega) k
  rw [show (2 : Nat) ^ 16 = 65536 from rfl, Nat.mul_comm] at this
  exact this.symm
 rw [e]; simp
theorem numTo_drop (l : List UInt8) (k a : Nat) : ∀ n, numTo (l.drop k) a n = numTo l (k + a) n
 | 0 => rfl
 | n + 1 => by
  unfold numTo
  rw [numTo_drop l k a n]
  simp only [List.getD_eq_getElem?_getD, List.getElem?_drop, Nat.add_assoc]
theorem numTo_four_of (l : List UInt8) : numTo l 0 4 = numTo l 0 2 * 65536 + numTo (l.drop 2) 0 2 := by
 rw [numTo_drop]
 unfold numTo numTo numTo numTo
 simp [numTo]
 omega
theorem two_lt (l : List UInt8) : 0 ≤ numTo l 0 2 ∧ numTo l 0 2 < 65536 := by
 rw [numTo_two_of]
 have h0 := (l.getD 0 0).toNat_lt
 have h1 := (l.getD 1 0).toNat_lt
 omega
end Dp
set_option maxRecDepth 100000 in
set_option maxHeartbeats 400000 in
theorem progQTwo (w0 : World) (p : Nat) (eb : Addr) (l : List UInt8) (w : World) (he : Dp.ErrAt w0 eb) (h : Dp.PartsAt w0 p w l) :
  Calls Tryz.prog 150 #[.pointer (some ⟨p, 0, none⟩)] w fun e w' => Dp.after (if 2 ≤ l.length then some () else none) (e = .panicked (Dp.wrong eb) ∧ w' = w) fun _ => e = .returned (.int .i64 (Dp.numTo l 0 2)) ∧ Dp.PartsAt w0 p w' (l.drop 2) ∧ Dp.Keeps (fun k => k = p) w w' ∧ w'.heap.size = w.heap.size := by
 go_enter Tryz.func150, Tryz.ntmps150
 go_wp2_with fail
 refine (progCut w0 p eb 2 l _ he h (by omega)).mono ?_
 intro e w1 h1
 by_cases hle : 2 ≤ l.length
 ·rw [if_pos hle, Dp.after_some] at h1
  obtain ⟨v, rfl, hc, hp1, k1, z1⟩ := h1
  obtain ⟨ad, cap, rfl, h2, h3, h4⟩ := hc
  have hl1 : (l.take 2).length = 2 := by rw [List.length_take]; omega
  obtain ⟨b, o, rfl, h6⟩ := h4 (by intro e; rw [e] at hl1; simp at hl1)
  have hc0 := h6 0 (by omega)
  have hc1 := h6 1 (by omega)
  have hk0 := (hp1.kept.cell (p := ⟨b, o + 0, none⟩) (Dp.cell_lt hc0) (fun e => e)).trans hc0
  have hk1 := (hp1.kept.cell (p := ⟨b, o + 1, none⟩) (Dp.cell_lt hc1) (fun e => e)).trans hc1
  have hv0 : (l.take 2)[0]'(by omega) = l.getD 0 0 := by simp [List.getD_eq_getElem?_getD, List.getElem?_eq_getElem (show 0 < l.length by omega)]
  have hv1 : (l.take 2)[1]'(by omega) = l.getD 1 0 := by simp [List.getD_eq_getElem?_getD, List.getElem?_eq_getElem (show 1 < l.length by omega)]
  rw [hv0, Nat.add_zero] at hk0
  rw [hv1] at hk1
  rw [hl1]
  clear hc0 hc1 h6 h4 h hv0 hv1
  have HP := Hid.mk_ hp1
  clear hp1
  have HN := Hid.mk_ (Dp.numTo_two_of l)
  have b0 := (l.getD 0 0).toNat_lt
  have b1 := (l.getD 1 0).toNat_lt
  generalize (l.getD 0 0).toNat = B0 at *
  generalize (l.getD 1 0).toNat = B1 at *
  go_wp2
  go_region
  go_wp2
  go_ret
  rw [Dp.after_some]
  refine ⟨Dp.ret_int ?_, HP.out.keep (S := fun _ => False) ((Dp.Keeps.refl _ _).drew) (fun e => e) (fun _ _ e => e), k1.drew, z1⟩
  rw [HN.out]
  exact Dp.or_i64 _ _ (by omega) (by omega)
 ·rw [if_neg hle, Dp.after_none] at h1
  obtain ⟨rfl, rfl⟩ := h1
  exact ⟨rfl, by rw [if_neg hle]; exact ⟨rfl, rfl⟩⟩
set_option maxRecDepth 100000 in
set_option maxHeartbeats 400000 in
theorem progQWord (w0 : World) (p : Nat) (eb : Addr) (l : List UInt8) (w : World) (he : Dp.ErrAt w0 eb) (h : Dp.PartsAt w0 p w l) :
  Calls Tryz.prog 148 #[.pointer (some ⟨p, 0, none⟩)] w fun e w' => Dp.after (if 4 ≤ l.length then some () else none) (e = .panicked (Dp.wrong eb) ∧ Dp.Keeps (fun _ => False) w0 w') fun _ => e = .returned (.int .u32 (Dp.numTo l 0 4)) ∧ Dp.PartsAt w0 p w' (l.drop 4) ∧ Dp.Keeps (fun k => k = p) w w' ∧ w'.heap.size = w.heap.size := by
 go_enter Tryz.func148, Tryz.ntmps148
 go_wp2_with fail
 refine (progQTwo w0 p eb l _ he h).mono ?_
 intro e w1 h1
 by_cases h2 : 2 ≤ l.length
 ·rw [if_pos h2, Dp.after_some] at h1
  obtain ⟨rfl, hp1, k1, z1⟩ := h1
  have b0 := Dp.two_lt l
  have b1 := Dp.two_lt (l.drop 2)
  have HF := Hid.mk_ (Dp.numTo_four_of l)
  clear h
  generalize Dp.numTo l 0 2 = A at *
  go_wp2_with fail
  refine (progQTwo w0 p eb (l.drop 2) _ he hp1).mono ?_
  intro e w2 h1
  have hl : (l.drop 2).length = l.length - 2 := List.length_drop
  by_cases h4 : 4 ≤ l.length
  ·rw [if_pos (by omega), Dp.after_some] at h1
   obtain ⟨rfl, hp2, k2, z2⟩ := h1
   generalize Dp.numTo (l.drop 2) 0 2 = B at *
   have HP : Hid (Dp.PartsAt w0 p w2 (l.drop 4)) := by
    have := hp2
    rw [List.drop_drop] at this
    exact this
   clear hp1 hp2 hl
   have hw1 : IntKind.u32.wrap (A * 65536) = A * 65536 := by rw [IntKind.wrap_u32]; omega
   go_wp2
   go_ret
   rw [Dp.after_some]
   refine ⟨?_, HP.out, k1.trans k2, z2.trans z1⟩
   rw [HF.out]
   exact congrArg (fun x => Ending.returned (Value.int .u32 x)) (Dp.or_u32 _ _ (by omega) (by omega))
  ·rw [if_neg (by omega), Dp.after_none] at h1
   obtain ⟨rfl, rfl⟩ := h1
   exact ⟨rfl, by rw [if_neg h4]; exact ⟨rfl, hp1.kept⟩⟩
 ·rw [if_neg h2, Dp.after_none] at h1
  obtain ⟨rfl, rfl⟩ := h1
  exact ⟨rfl, by rw [if_neg (by omega)]; exact ⟨rfl, h.kept⟩⟩
set_option maxRecDepth 100000 in
set_option maxHeartbeats 400000 in
theorem progQEnd (w0 : World) (p : Nat) (eb : Addr) (l : List UInt8) (w : World) (he : Dp.ErrAt w0 eb) (h : Dp.PartsAt w0 p w l) :
  Calls Tryz.prog 123 #[.pointer (some ⟨p, 0, none⟩)] w fun e w' => w' = w ∧ e = if l.length = 0 then .returned (.tuple #[]) else .panicked (Dp.wrong eb) := by
 have he' := he.keep h.kept
 obtain ⟨v, hr, hc⟩ := h.row
 obtain ⟨ad, cap, rfl, h2, h3, _⟩ := hc
 have c0 := hr.cellAt 0 (by simp)
 simp only [List.getElem_cons_zero] at c0
 by_cases hle : l.length = 0
 ·have hg : ((l.length : Int) == 0) = true := by simp [hle]
  rw [if_pos hle]
  go_enter Tryz.func123, Tryz.ntmps123
  go_wp2_with fail
  with_reducible refine (progReqT _ _).mono ?_
  rintro e w1 ⟨rfl, rfl⟩
  go_wp2
  go_end0
  exact ⟨rfl, rfl⟩
 ·have hg : ((l.length : Int) == 0) = false := by rw [beq_eq_false_iff_ne]; omega
  rw [if_neg hle]
  go_enter Tryz.func123, Tryz.ntmps123
  go_wp2_with fail
  with_reducible refine (progReqF _ eb _ he').mono ?_
  rintro e w1 ⟨rfl, rfl⟩
  exact ⟨rfl, rfl, rfl⟩
namespace Dp
def others (l : List UInt8) (k : Nat) : List Int := (List.range k).map fun i => numTo l (4 + 2 * i) 2
def othersTo (l : List UInt8) (k : Nat) : List Int := others l k ++ List.replicate (8 - k) 0
theorem othersTo_put (l : List UInt8) (k : Nat) (hk : k < 8) : (othersTo l k).set k (numTo l (4 + 2 * k) 2) = othersTo l (k + 1) := by
 unfold othersTo others
 rcases (by omega : k = 0 ∨ k = 1 ∨ k = 2 ∨ k = 3 ∨ k = 4 ∨ k = 5 ∨ k = 6 ∨ k = 7) with rfl | rfl | rfl | rfl | rfl | rfl | rfl | rfl <;> rfl
theorem othersTo_length (l : List UInt8) (k : Nat) (hk : k ≤ 8) : (othersTo l k).length = 8 := by unfold othersTo others; simp; omega
theorem othersTo_all (l : List UInt8) : othersTo l 8 = others l 8 := by unfold othersTo; simp
def intCells (l : List Int) : List Value := l.map fun x => Value.int .i64 x
def proofCells (word : Int) (os : List Int) : List Value := .int .u32 word :: intCells os
theorem proofCells_length (word : Int) (os : List Int) : (proofCells word os).length = os.length + 1 := by simp [proofCells, intCells]
theorem proofCells_set (word : Int) (os : List Int) (k : Nat) (v : Int) : (proofCells word os).set (1 + k) (.int .i64 v) = proofCells word (os.set k v) := by
 unfold proofCells intCells
 rw [Nat.add_comm 1 k, List.set_cons_succ, List.map_set]
theorem proofCells_one (word : Int) (os : List Int) : ∀ v ∈ proofCells word os, v.oneCell' = true := by
 intro v hv
 simp only [proofCells, intCells, List.mem_cons, List.mem_map] at hv
 rcases hv with rfl | ⟨x, _, rfl⟩ <;> rfl
end Dp
theorem sizeProof : (Tryz.prog.info? 219).map (·.size) = some 9 := by kernel_rfl
theorem zeroProof : (Tryz.prog.info? 219).map (fun i => i.zero) = some (some (.agg (Dp.proofCells 0 [0, 0, 0, 0, 0, 0, 0, 0]).toArray)) := by kernel_rfl
set_option maxRecDepth 100000 in
set_option maxHeartbeats 1000000 in
theorem progCutProof (w0 : World) (p : Nat) (eb : Addr) (l : List UInt8) (w : World) (he : Dp.ErrAt w0 eb) (h : Dp.PartsAt w0 p w l) :
  Calls Tryz.prog 183 #[.pointer (some ⟨p, 0, none⟩)] w fun e w' => Dp.after (if 20 ≤ l.length then some () else none) (e = .panicked (Dp.wrong eb) ∧ Dp.Keeps (fun _ => False) w0 w') fun _ => e = .returned (.agg (Dp.proofCells (Dp.numTo l 0 4) (Dp.others l 8)).toArray) ∧ Dp.PartsAt w0 p w' (l.drop 20) ∧ Dp.Keeps (fun k => k = p) w w' := by
 have hplt : p < w.heap.size := by obtain ⟨v, hr, _⟩ := h.row; exact hr.lt
 have hw0 := h.new
 go_enter Tryz.func183, Tryz.ntmps183
 go_wp2_with (refine Dp.wpList_alloc_row rfl 219 rfl _ zeroProof ?_)
 intro w1 r1 z1 k1
 have hp1 := h.keep k1 (fun e => e) (fun _ _ e => e)
 clear h
 go_wp2_with fail
 refine (progQWord w0 p eb l _ he hp1).mono ?_
 intro e w2 h2
 by_cases h4 : 4 ≤ l.length
 ·rw [if_pos h4, Dp.after_some] at h2
  obtain ⟨rfl, hp2, k2, z2⟩ := h2
  have hne : w.heap.size ≠ p := by omega
  have r2 := r1.keep k2 hne
  have kk2 : Dp.Keeps (fun k => k = p) w w2 := (k1.mono (fun _ _ e => e.elim)).trans k2
  have hW := Dp.numTo_bd l 0 4 (Nat.le_refl _)
  clear hp1 r1 k1 k2
  generalize hWW : Dp.numTo l 0 4 = W at *
  go_wp2_with (refine Dp.wpList_alloc_row rfl 219 rfl _ zeroProof ?_)
  intro w3 r3 z3 k3
  have r3' : Dp.Row w3 (w.heap.size + 1) 219 ([] ++ Dp.proofCells 0 [0, 0, 0, 0, 0, 0, 0, 0] ++ []) := by rw [List.append_nil, List.nil_append]; exact r3
  go_wp2_with (refine Dp.wpList_store_in rfl 219 _ _ rfl (w.heap.size + 1) 0 rfl (Dp.proofCells W [0, 0, 0, 0, 0, 0, 0, 0]) rfl 219 [] _ [] r3' rfl rfl (by rw [sizeProof]; rfl) (Dp.proofCells_one _ _) ?_)
  intro w4 r4 z4 k4
  have rz := (r2.keep k3 (fun e => e)).keep k4 (show w.heap.size ≠ w.heap.size + 1 by omega)
  have hp4 := (hp2.keep k3 (fun e => e) (fun _ _ e => e)).keep k4 (show p ≠ w.heap.size + 1 by omega) (fun i hi e => by omega)
  have kk4 : Dp.Keeps (fun k => k = p) w w4 := (kk2.trans (k3.mono (fun _ _ e => e.elim))).next k4 (fun i hi e => by omega)
  clear r2 hp2 k3 k4 r3 r3' kk2
  go_wp2
  go_loopw [4, 8] (fun _ i wr => ∃ k : Nat, k ≤ 8 ∧ i = .int .i64 k ∧ 4 + 2 * k ≤ l.length ∧ Dp.PartsAt w0 p wr (l.drop (4 + 2 * k)) ∧ Dp.Row wr (w.heap.size + 1) 219 (Dp.proofCells W (Dp.othersTo l k)) ∧ Dp.Row wr w.heap.size 219 (Dp.proofCells 0 [0, 0, 0, 0, 0, 0, 0, 0]) ∧ Dp.Keeps (fun k => k = p) w wr) (fun _ i _ => 8 - (intOf i).toNat)
  case atStart => exact ⟨0, Nat.zero_le _, rfl, h4, hp4, r4, rz, kk4⟩
  case round =>
   obtain ⟨k, hk, rfl, hlk, hpk, rk, rzk, kkk⟩ := hrel
   clear hp4 r4 rz kk4
   by_cases hlt : k < 8
   ·go_wp2_with fail
    refine (progQTwo w0 p eb (l.drop (4 + 2 * k)) _ he hpk).mono ?_
    intro e w5 h5
    have hdl : (l.drop (4 + 2 * k)).length = l.length - (4 + 2 * k) := List.length_drop
    by_cases h6 : 4 + 2 * (k + 1) ≤ l.length
    ·rw [if_pos (by omega), Dp.after_some] at h5
     obtain ⟨rfl, hp5, k5, z5⟩ := h5
     have HP : Hid (Dp.PartsAt w0 p w5 (l.drop (4 + 2 * (k + 1)))) := by
      unfold Hid; have := hp5; rw [List.drop_drop] at this; exact this
     have HN : Hid (Dp.numTo (l.drop (4 + 2 * k)) 0 2 = Dp.numTo l (4 + 2 * k) 2) := Dp.numTo_drop _ _ _ _
     have HB : Hid ((Dp.othersTo l k).set k (Dp.numTo l (4 + 2 * k) 2) = Dp.othersTo l (k + 1)) := Dp.othersTo_put l k hlt
     have r5 := rk.keep k5 (show ¬ (w.heap.size + 1 = p) by omega)
     have rz5 := rzk.keep k5 hne
     have hol := Dp.othersTo_length l k hk
     have c5 : w5.cell? ⟨w.heap.size + 1, 1 + k, none⟩ = some (.int .i64 ((Dp.othersTo l k).getD k 0)) := by
      rw [r5.cell]; unfold Dp.proofCells Dp.intCells
      rw [Nat.add_comm 1 k, List.getElem?_cons_succ]
      simp [hol, hlt]
     have f5 := r5.frozen (1 + k)
     rw [HN.out]
     have HR : Hid (Dp.Row (w5.setCell ⟨w.heap.size + 1, 1 + k, none⟩ (.int .i64 (Dp.numTo l (4 + 2 * k) 2))) (w.heap.size + 1) 219 (Dp.proofCells W (Dp.othersTo l (k + 1)))) := by
      have h := r5.set (1 + k) (.int .i64 (Dp.numTo l (4 + 2 * k) 2))
      rw [Dp.proofCells_set, HB.out] at h
      exact h
     have HZ : Hid (Dp.Row (w5.setCell ⟨w.heap.size + 1, 1 + k, none⟩ (.int .i64 (Dp.numTo l (4 + 2 * k) 2))) w.heap.size 219 (Dp.proofCells 0 [0, 0, 0, 0, 0, 0, 0, 0])) := rz5.setOther _ _ (show w.heap.size ≠ w.heap.size + 1 by omega)
     have HK : Hid (Dp.Keeps (fun k => k = p) w (w5.setCell ⟨w.heap.size + 1, 1 + k, none⟩ (.int .i64 (Dp.numTo l (4 + 2 * k) 2)))) := (kkk.trans k5).setCell (p := ⟨w.heap.size + 1, 1 + k, none⟩) (.inl (Nat.le_succ _)) _
     have HQ : Hid (Dp.PartsAt w0 p (w5.setCell ⟨w.heap.size + 1, 1 + k, none⟩ (.int .i64 (Dp.numTo l (4 + 2 * k) 2))) (l.drop (4 + 2 * (k + 1)))) :=
      HP.out.keep (S := fun k => k = w.heap.size + 1) (Dp.Keeps.setCell (S := fun k => k = w.heap.size + 1) (p := ⟨w.heap.size + 1, 1 + k, none⟩) (Dp.Keeps.refl _ _) (.inr rfl) _) (show p ≠ w.heap.size + 1 by omega) (fun i hi e => by omega)
     generalize Dp.numTo l (4 + 2 * k) 2 = O at *
     clear rk rzk r5 rz5 hp5 hpk k5 kkk
     go_wp2
     go_roundw
     case rel => exact ⟨k + 1, by omega, by go_num, h6, HQ.out, HR.out, HZ.out, HK.out⟩
     case measure => simp [intOf]; omega
    ·rw [if_neg (by omega), Dp.after_none] at h5
     obtain ⟨rfl, rfl⟩ := h5
     exact ⟨rfl, by rw [if_neg (by omega)]; exact ⟨rfl, hpk.kept⟩⟩
   ·obtain rfl : k = 8 := by omega
    have h20 : 20 ≤ l.length := by omega
    rw [show ((8 : Nat) : Int) = 8 from rfl]
    have rk' : Dp.Row wr (w.heap.size + 1) 219 ([] ++ Dp.proofCells W (Dp.others l 8) ++ []) := by
     rw [List.append_nil, List.nil_append, ← Dp.othersTo_all]; exact rk
    have rz' : Dp.Row wr w.heap.size 219 ([] ++ Dp.proofCells 0 [0, 0, 0, 0, 0, 0, 0, 0] ++ []) := by
     rw [List.append_nil, List.nil_append]; exact rzk
    have HM : Hid ((Dp.proofCells W (Dp.others l 8)).length = 9) := by unfold Hid; rw [Dp.proofCells_length]; simp [Dp.others]
    generalize hOS : Dp.others l 8 = OS at *
    clear rk rzk
    have HRK := Hid.mk_ rk'
    have HRZ := Hid.mk_ rz'
    clear rk' rz'
    go_wp2_with (first | (refine Dp.wpList_store_in rfl 219 _ _ rfl w.heap.size 0 rfl (Dp.proofCells W OS) rfl 219 [] _ [] HRZ.out rfl (HM.out.trans rfl) (by rw [sizeProof, HM.out]) (Dp.proofCells_one _ _) ?_) | (refine Dp.wpList_load_in rfl 219 _ rfl (w.heap.size + 1) 0 rfl 219 [] _ [] HRK.out rfl _ Tryz.underlying219 rfl (by rw [sizeProof, HM.out]) ?_; intro _))
    intro w6 r6 z6 k6
    have hp6 := hpk.keep k6 (show p ≠ w.heap.size by omega) (fun i hi e => by omega)
    have kk6 : Dp.Keeps (fun k => k = p) w w6 := kkk.next k6 (fun i hi e => by omega)
    go_wp2
    refine bodyPost_ret (v := .agg (Dp.proofCells W OS).toArray) (results_cell_row rfl _ _ w.heap.size 219 _ (0, 0) _ rfl r6 Tryz.underlying219 rfl (by rw [sizeProof, List.size_toArray, HM.out])) rfl ?_
    first | rw [if_pos h20, Dp.after_some] | rw [Dp.after_some]
    exact ⟨by first | rfl | rw [hOS] | rw [hOS, hWW], hp6, kk6⟩
 ·rw [if_neg h4, Dp.after_none] at h2
  obtain ⟨rfl, k2⟩ := h2
  exact ⟨rfl, by rw [if_neg (by omega)]; exact ⟨rfl, k2⟩⟩
end Go.Proofs.YtdipojfngdceoaaGreatDoor
