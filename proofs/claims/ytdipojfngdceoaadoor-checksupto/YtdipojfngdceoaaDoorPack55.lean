/- Steps on the way: LawChecks, LawChecksTop. -/
import Derived.Test.YtdipojfngdceoaaDoorPack43
import Derived.Test.YtdipojfngdceoaaDoorPack46
import Derived.Test.YtdipojfngdceoaaDoorPack54
/- What 'checks' comes to: the program's Check and the document's say the same of every witness. -/
namespace Go.Proofs.YtdipojfngdceoaaDoor
open Go.RowKit

set_option maxRecDepth 100000 in
set_option maxHeartbeats 1000000 in
theorem lawChecks (l : List UInt8) (S : Int) (w : World) (N : Nat) (eb : Addr) (v0 v1 v2 v3 v4 v5 : Value) (xs : List Value) (hl : l.length ≤ 16777216) (hk : xs.length ≤ 16777216) (he : Dp.ErrAt w eb)
    (hN : Dp.Row w N 29 [v0, v1, v2, v3, v4, v5]) (hown : Dp.Own w 44 v2 xs) :
    Calls Tryd.prog 9 #[.pointer (some ⟨N, 0, none⟩), .int .i64 S, .string (Dp.str l)] w fun e w' => e = .returned (.bool true) ∧ Dp.Keeps (fun j => j = N ∨ v2.ownBlock = some j) w w' ∧
      ∃ v2' b, Dp.Row w' N 29 [v0, v1, v2', v3, v4, v5] ∧ Dp.Own w' 44 v2' (xs ++ [.slice (some ⟨b, 0, none⟩) (l.length + 2) (l.length + 2)]) ∧ w.heap.size ≤ b ∧ Dp.Row w' b 5 (List.replicate (l.length + 2) (.int .u8 251)) ∧ (v2'.ownBlock = v2.ownBlock ∨ ∀ g, v2'.ownBlock = some g → w.heap.size ≤ g) := by
  have hsz := Dp.str_size l
  have hNl := hN.lt
  go_enter Tryd.func9, Tryd.ntmps9
  go_wp2_with fail
  refine (lent_any (Dp.str l) _ (by rw [hsz]; exact hl)).mono ?_
  rintro e w1 ⟨rfl, r1, z1, k1⟩
  rw [Dp.str_data] at r1
  rw [hsz]
  have hcut : Dp.Cutting w1 (.slice (some ⟨w.heap.size, 0, none⟩) l.length (l.length + 2)) l := by
    refine ⟨some ⟨w.heap.size, 0, none⟩, l.length + 2, rfl, by omega, by unfold maxLen; omega, fun _ => ⟨w.heap.size, 0, rfl, fun j hj => ?_⟩⟩
    have h := Dp.vals_cell r1 j hj
    rw [Dp.add_zero_off] at h
    rw [Nat.zero_add]; exact h
  have he1 := he.keep k1
  have hN1 := hN.keep k1 (fun e => e)
  have ho1 := hown.keep k1 (fun _ _ e => e)
  have hgl : (l.length : Int) ≤ (l.length : Int) + 2 := by omega
  have HC := Hid.mk_ hcut
  clear hcut
  go_wp2_with fail
  refine (progCheck w1 eb S (some ⟨w.heap.size, 0, none⟩) (l.length + 2) l he1 HC.out hl).mono ?_
  rintro e w2 ⟨rfl, k2⟩
  go_wp2_with fail
  refine (refCheck S l _ hl).mono ?_
  rintro e w3 ⟨rfl, k3⟩
  generalize Dp.checked S l = C at *
  have k13 := k2.trans k3
  have hN3 := hN1.keep k13 (fun e => e)
  have ho3 := ho1.keep k13 (fun _ _ e => e)
  have r3 := r1.keep k13 (fun e => e)
  have z3 := k13.size
  go_wp2_with fail
  have hr := returned_any (Dp.str l) w3 N w.heap.size v0 v1 v2 v3 v4 v5 xs (by rw [hsz]; exact hl) hk (by rw [Dp.str_data]; exact r3) hN3 ho3
  rw [hsz] at hr
  refine hr.mono ?_
  clear hr
  rintro e w4 ⟨rfl, r4, k4, v2', hN4, ho4, hv4⟩
  go_wp2
  go_ret
  refine ⟨rfl, ((k1.trans k13).mono (fun _ _ e => e.elim)).next k4 (fun i hi e => ?_), v2', w.heap.size, hN4, ho4, Nat.le_refl _, r4, ?_⟩
  · rcases e with e | e | e
    · omega
    · exact .inl e
    · exact .inr e
  · rcases hv4 with h | h
    · exact .inl h
    · exact .inr fun g hg => by have := h g hg; have := (k1.trans k13).size; omega
end Go.Proofs.YtdipojfngdceoaaDoor

/- The law of checks: 'Checks' answers true of every stamp and every text. -/
namespace Go.Proofs.YtdipojfngdceoaaDoor
open Go.RowKit

set_option maxRecDepth 100000 in
set_option maxHeartbeats 1000000 in
theorem lawChecksTop (S : Int) (l : List UInt8) (own : Bool) (w : World) (eb : Addr) (he : Dp.ErrAt w eb) (hl : l.length ≤ 16777216) :
    Calls Tryd.prog 3 #[.int .i64 S, .string (Dp.str l), .bool own] w fun e w' => e = .returned (.bool true) ∧ Dp.Keeps (fun _ => False) w w' := by
  have hsz := Dp.str_size l
  have HZ : Hid ((Dp.label ⟨300, 0, 0, false, [0, 0, 0, 0, 0, 0, 0, 0]⟩ 0).length = 47) := Dp.label_length _ _ rfl
  have HOK : Hid (Dp.Cs.Ok ⟨300, 0, 0, false, [0, 0, 0, 0, 0, 0, 0, 0]⟩) := by
    refine ⟨by simp [Dp.isWord], by simp [Dp.isWord], by simp [Dp.isWord], rfl, fun x hx => ?_⟩
    simp at hx
    subst hx
    simp [Dp.isWord]
  go_enter Tryd.func3, Tryd.ntmps3
  go_wp2_with (refine Dp.wpList_box_row rfl 29 _ rfl [.slice none 0 0, .slice none 0 0, .slice none 0 0, .slice none 0 0, .slice none 0 0, .slice none 0 0] rfl ?_)
  intro w1 r1 z1 k1
  have he1 := he.keep k1
  have HR1 := Hid.mk_ r1
  clear r1
  have HT := Hid.mk_ (Dp.str_take l 47)
  have HLS : Hid ((Dp.str (l.take 47)).size ≤ maxLen) := by unfold Hid; rw [Dp.str_size, List.length_take]; unfold maxLen; omega
  have hcases : (own = true ∧ decide ((47 : Int) ≤ (l.length : Int)) = true) ∨ (own = true ∧ decide ((47 : Int) ≤ (l.length : Int)) = false) ∨ own = false := by
    cases own with
    | false => exact .inr (.inr rfl)
    | true =>
      cases h : decide ((47 : Int) ≤ (l.length : Int)) with
      | true => exact .inl ⟨rfl, rfl⟩
      | false => exact .inr (.inl ⟨rfl, rfl⟩)
  rcases hcases with ⟨rfl, hd⟩ | ⟨rfl, hd⟩ | rfl
  · have h47 : (47 : Int) ≤ (l.length : Int) := of_decide_eq_true hd
    go_wp2_with fail
    rw [HT.out]
    with_reducible refine (refSum _ _ HLS.out).mono ?_
    rintro e w2 ⟨rfl, hww⟩
    subst w2
    rw [Dp.str_data]
    clear h47 hd
    generalize Dp.sum (l.take 47) = T at *
    go_wp2_with fail
    refine (lawChecks l _ w1 w.heap.size eb (.slice none 0 0) (.slice none 0 0) (.slice none 0 0) (.slice none 0 0) (.slice none 0 0) (.slice none 0 0) [] hl (by simp) he1 HR1.out (Dp.Own.nil _ _)).mono ?_
    rintro e w3 ⟨rfl, k3, v2, b, hN3, ho3, hb3, hr3, hv3⟩
    have k03 : Dp.Keeps (fun _ => False) w w3 := k1.next k3 (fun i hi e => by rcases e with e | e; omega; simp [Value.ownBlock] at e)
    have he3 := he.keep k03
    have HN3 := Hid.mk_ hN3
    have HO3 := Hid.mk_ ho3
    have HV3 : Hid (∀ g, v2.ownBlock = some g → w.heap.size ≤ g) := fun g hg => by
      rcases hv3 with h | h
      · rw [h] at hg; simp [Value.ownBlock] at hg
      · have := h g hg; have := k1.size; omega
    clear hN3 ho3 hv3 hr3 k3 he1 HR1
    go_wp2_with fail
    refine (refLabelX ⟨300, 0, 0, false, [0, 0, 0, 0, 0, 0, 0, 0]⟩ 0 _ HOK.out (by omega)).mono ?_
    rintro e w4 ⟨rfl, k4⟩
    have k04 := k03.trans k4
    have hN4 := HN3.out.keep k4 (fun e => e)
    have ho4 := HO3.out.keep k4 (fun _ _ e => e)
    have he4 := he.keep k04
    generalize Dp.label ⟨300, 0, 0, false, [0, 0, 0, 0, 0, 0, 0, 0]⟩ 0 = LB at *
    go_wp2_with fail
    with_reducible refine (refSum _ _ (by rw [Dp.str_size, HZ.out]; simp [maxLen])).mono ?_
    rintro e w5 ⟨rfl, hww⟩
    subst w5
    rw [Dp.str_data]
    go_wp2_with fail
    refine (lawChecks LB _ w4 w.heap.size eb (.slice none 0 0) (.slice none 0 0) v2 (.slice none 0 0) (.slice none 0 0) (.slice none 0 0) _ (by rw [HZ.out]; omega) (by simp) he4 hN4 ho4).mono ?_
    rintro e w6 ⟨rfl, k6, _⟩
    go_wp2
    go_ret
    exact ⟨rfl, k04.next k6 (fun i hi e => by rcases e with e | e; omega; have := HV3.out i e; omega)⟩
  · go_wp2_with fail
    clear hd
    refine (lawChecks l _ w1 w.heap.size eb (.slice none 0 0) (.slice none 0 0) (.slice none 0 0) (.slice none 0 0) (.slice none 0 0) (.slice none 0 0) [] hl (by simp) he1 HR1.out (Dp.Own.nil _ _)).mono ?_
    rintro e w3 ⟨rfl, k3, v2, b, hN3, ho3, hb3, hr3, hv3⟩
    have k03 : Dp.Keeps (fun _ => False) w w3 := k1.next k3 (fun i hi e => by rcases e with e | e; omega; simp [Value.ownBlock] at e)
    have he3 := he.keep k03
    have HN3 := Hid.mk_ hN3
    have HO3 := Hid.mk_ ho3
    have HV3 : Hid (∀ g, v2.ownBlock = some g → w.heap.size ≤ g) := fun g hg => by
      rcases hv3 with h | h
      · rw [h] at hg; simp [Value.ownBlock] at hg
      · have := h g hg; have := k1.size; omega
    clear hN3 ho3 hv3 hr3 k3 he1 HR1
    go_wp2_with fail
    refine (refLabelX ⟨300, 0, 0, false, [0, 0, 0, 0, 0, 0, 0, 0]⟩ 0 _ HOK.out (by omega)).mono ?_
    rintro e w4 ⟨rfl, k4⟩
    have k04 := k03.trans k4
    have hN4 := HN3.out.keep k4 (fun e => e)
    have ho4 := HO3.out.keep k4 (fun _ _ e => e)
    have he4 := he.keep k04
    generalize Dp.label ⟨300, 0, 0, false, [0, 0, 0, 0, 0, 0, 0, 0]⟩ 0 = LB at *
    go_wp2_with fail
    with_reducible refine (refSum _ _ (by rw [Dp.str_size, HZ.out]; simp [maxLen])).mono ?_
    rintro e w5 ⟨rfl, hww⟩
    subst w5
    rw [Dp.str_data]
    go_wp2_with fail
    refine (lawChecks LB _ w4 w.heap.size eb (.slice none 0 0) (.slice none 0 0) v2 (.slice none 0 0) (.slice none 0 0) (.slice none 0 0) _ (by rw [HZ.out]; omega) (by simp) he4 hN4 ho4).mono ?_
    rintro e w6 ⟨rfl, k6, _⟩
    go_wp2
    go_ret
    exact ⟨rfl, k04.next k6 (fun i hi e => by rcases e with e | e; omega; have := HV3.out i e; omega)⟩
  · go_wp2_with fail
    refine (lawChecks l _ w1 w.heap.size eb (.slice none 0 0) (.slice none 0 0) (.slice none 0 0) (.slice none 0 0) (.slice none 0 0) (.slice none 0 0) [] hl (by simp) he1 HR1.out (Dp.Own.nil _ _)).mono ?_
    rintro e w3 ⟨rfl, k3, v2, b, hN3, ho3, hb3, hr3, hv3⟩
    have k03 : Dp.Keeps (fun _ => False) w w3 := k1.next k3 (fun i hi e => by rcases e with e | e; omega; simp [Value.ownBlock] at e)
    have he3 := he.keep k03
    have HN3 := Hid.mk_ hN3
    have HO3 := Hid.mk_ ho3
    have HV3 : Hid (∀ g, v2.ownBlock = some g → w.heap.size ≤ g) := fun g hg => by
      rcases hv3 with h | h
      · rw [h] at hg; simp [Value.ownBlock] at hg
      · have := h g hg; have := k1.size; omega
    clear hN3 ho3 hv3 hr3 k3 he1 HR1
    go_wp2_with fail
    refine (refLabelX ⟨300, 0, 0, false, [0, 0, 0, 0, 0, 0, 0, 0]⟩ 0 _ HOK.out (by omega)).mono ?_
    rintro e w4 ⟨rfl, k4⟩
    have k04 := k03.trans k4
    have hN4 := HN3.out.keep k4 (fun e => e)
    have ho4 := HO3.out.keep k4 (fun _ _ e => e)
    have he4 := he.keep k04
    generalize Dp.label ⟨300, 0, 0, false, [0, 0, 0, 0, 0, 0, 0, 0]⟩ 0 = LB at *
    go_wp2_with fail
    with_reducible refine (refSum _ _ (by rw [Dp.str_size, HZ.out]; simp [maxLen])).mono ?_
    rintro e w5 ⟨rfl, hww⟩
    subst w5
    rw [Dp.str_data]
    go_wp2_with fail
    refine (lawChecks LB _ w4 w.heap.size eb (.slice none 0 0) (.slice none 0 0) v2 (.slice none 0 0) (.slice none 0 0) (.slice none 0 0) _ (by rw [HZ.out]; omega) (by simp) he4 hN4 ho4).mono ?_
    rintro e w6 ⟨rfl, k6, _⟩
    go_wp2
    go_ret
    exact ⟨rfl, k04.next k6 (fun i hi e => by rcases e with e | e; omega; have := HV3.out i e; omega)⟩
end Go.Proofs.YtdipojfngdceoaaDoor
