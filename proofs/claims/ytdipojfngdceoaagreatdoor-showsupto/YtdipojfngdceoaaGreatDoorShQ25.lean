/- Steps on the way: LawOpensGN. -/
import Derived.Test.YtdipojfngdceoaaGreatDoorShQ09
import Derived.Test.YtdipojfngdceoaaGreatDoorShQ24
namespace Go.Proofs.YtdipojfngdceoaaGreatDoor
open Go.RowKit
set_option maxRecDepth 100000 in
set_option maxHeartbeats 4000000 in
theorem lawOpensGN (w : World) (W : Nat) (t0 t1 t2 t3 t4 t5 : Value) (y0 y2 y3 y5 : List Value) (vW vT : Value) (words : List Int) (srcs : List (List UInt8)) (hW : Dp.Ints w vW words) (hT : Dp.Texts w vT srcs) (h64 : ∀ x ∈ words, -9223372036854775808 ≤ x ∧ x ≤ 9223372036854775807)
  (hR : Dp.Row w W 32 [t0, t1, t2, t3, t4, t5]) (hO0 : Dp.Own w 71 t0 y0) (hO2 : Dp.Own w 47 t2 y2) (hO3 : Dp.Own w 22 t3 y3) (hO5 : Dp.Own w 76 t5 y5) (hys : y0.length ≤ 16 ∧ y2.length ≤ 3000000 ∧ y3.length ≤ 16 ∧ y5.length ≤ 16)
  (hBT : srcs ≠ [] → ∀ b o n c, vT = Value.slice (some ⟨b, o, none⟩) n c → b ≠ W ∧ ¬ t2.ownBlock = some b) (hsel : ∀ ad n c, vW = Value.slice ad n c → Option.isNone ad = true) :
  Calls Tryz.prog 13 #[.pointer (some ⟨W, 0, none⟩), .agg #[vW, vT]] w fun e w' => e = .returned (.bool true) ∧ ∃ v0 v2 v3 v5 bs ts NN M6, Dp.OpenG w w' W t0 t1 t2 t3 t4 t5 y2 y3 y5 words.length srcs v0 v2 v3 v5 bs ts NN M6 ∧ ((Dp.newOk words srcs = false ∧ v0 = t0 ∧ Dp.Own w' 71 t0 y0) ∨ (Dp.newOk words srcs = true ∧ ∃ s b p g G vs vr, Dp.MadeG w' t0 v0 y0 NN M6 s b p g G vs vr (Dp.newMach words srcs))) := by
 have HW := Hid.mk_ hW
 have HT := Hid.mk_ hT
 have H64 := Hid.mk_ h64
 have HR := Hid.mk_ hR
 have HSEL := Hid.mk_ hsel
 have HO0 := Hid.mk_ hO0
 have HO2 := Hid.mk_ hO2
 have HO3X := Hid.mk_ hO3
 have HO5 := Hid.mk_ hO5
 have HYS := Hid.mk_ hys
 have HOLD : Hid (∀ q, q = W ∨ t2.ownBlock = some q ∨ t3.ownBlock = some q ∨ t5.ownBlock = some q ∨ t0.ownBlock = some q → q < w.heap.size) := by
  rintro q (e | e | e | e | e)
  ·exact e ▸ hR.lt
  ·exact hO2.lt q e
  ·exact hO3.lt q e
  ·exact hO5.lt q e
  ·exact hO0.lt q e
 have hWlt := hR.lt
 obtain ⟨wb, wo, wad, wcap, rfl, hwlen, hwne, hwc⟩ := hW
 obtain ⟨tb, tq, tad, tcap, rfl, htlen, htne, htc⟩ := hT
 have HBT : Hid (srcs ≠ [] → ∀ b o, tad = some ⟨b, o, none⟩ → b ≠ W ∧ ¬ t2.ownBlock = some b) := fun hne b o e => hBT hne b o _ _ (by rw [e])
 have HWN := Hid.mk_ hwne
 have HTN := Hid.mk_ htne
 have HWC := Hid.mk_ hwc
 have HTC := Hid.mk_ htc
 clear hwne hwc htne htc h64 hR hsel hO0 hO2 hO3 hO5 hys hBT
 go_enter Tryz.func13, Tryz.ntmps13
 go_wp2_with (refine Dp.wpList_box_row rfl 36 _ rfl [.slice wad words.length wcap, .slice tad srcs.length tcap] rfl ?_)
 intro w1 r1 z1 k1
 have m0 := r1.cell 0
 have m1 := r1.cell 1
 simp only [List.getElem?_cons_zero, List.getElem?_cons_succ] at m0 m1
 go_wp2_with (at_make; refine Dp.wpList_make_row _ rfl _ _ 22 rfl 3 (.int .i64 0) 8 Tryz.underlying22 infoInt rfl _ _ _ _ (words.length + 1) rfl rfl (by omega) (by omega) (by omega) (by unfold maxLen; omega) ?_)
 intro w2 r2 z2 k2
 have r1b := r1.keep k2 (fun e => e)
 have m0b := r1b.cell 0
 have m1b := r1b.cell 1
 simp only [List.getElem?_cons_zero, List.getElem?_cons_succ] at m0b m1b
 have k12 := k1.trans k2
 have HW2 := Hid.mk_ (HW.out.still k12)
 have HCP : Hid (0 < (Dp.regCells words).length → ∃ ad, wad = some ad ∧ ∀ j v, (Dp.regCells words)[j]? = some v → w2.cell? (ad.add j) = some v) := by
  intro hp
  have hne : words ≠ [] := by intro e; rw [e] at hp; simp [Dp.regCells] at hp
  refine ⟨⟨wb, wo, none⟩, (HWN.out hne).1, fun j v hj => ?_⟩
  have hjl : j < words.length := by have := (List.getElem?_eq_some_iff.1 hj).1; simpa [Dp.regCells] using this
  have h1 := HWC.out j hjl
  have h2 := k12.cell (p := ⟨wb, wo + j, none⟩) (Dp.cell_lt h1) (fun e => e)
  have h3 : (⟨wb, wo, none⟩ : Addr).add j = ⟨wb, wo + j, none⟩ := by simp [Addr.add]
  rw [h3, h2, h1]
  simp [Dp.regCells, hjl] at hj
  rw [hj]
 have HRL : Hid ((Dp.regCells words).length = words.length) := by unfold Hid; simp [Dp.regCells]
 have HRR := Hid.mk_ r2
 clear r1 m0 m1 r2
 go_wp2_with (refine Dp.wpList_copy_head rfl _ _ 22 22 rfl 3 Tryz.underlying22 sizeInt1 (w.heap.size + 1) (words.length + 1) (words.length + 1) wad words.length wcap rfl rfl 3 (Dp.regCells words) (List.replicate (words.length + 1) (.int .i64 0)) HRR.out HRL.out (by omega) (by rw [HRL.out, List.length_replicate]; omega) (Dp.regCells_one _) HCP.out ?_)
 intro w3 r3 z3 k3
 have r3' : Dp.Row w3 (w.heap.size + 1) 3 (Dp.regCells words ++ [.int .i64 0]) := by
  rw [HRL.out, show words.length + 1 - words.length = 1 by omega] at r3; exact r3
 clear r3
 have r1c := r1b.keep k3 (show ¬ w.heap.size = w.heap.size + 1 by omega)
 have m0c := r1c.cell 0
 have m1c := r1c.cell 1
 simp only [List.getElem?_cons_zero, List.getElem?_cons_succ] at m0c m1c
 have k13 : Dp.Keeps (fun _ => False) w w3 := k12.next k3 (fun q hq e => by omega)
 clear m0b m1b r1b k1 k2 k12 k3 z1 HRR HCP HW2
 cases wad with
 | some wa => exact absurd (HSEL.out _ _ _ rfl) (by simp)
 | none =>
  have HWZ : Hid (words.length = 0) := by
   unfold Hid
   by_cases e : words = []
   ·rw [e]; rfl
   ·exact absurd (HWN.out e).1 (by simp)
  have heq := fun wx => Lib.run_eql_slice_nil (P := Tryz.prog) wx 22 3 none words.length wcap 0 0 Tryz.underlying22
  go_wp2_with (at_make; refine Dp.wpList_make_row _ rfl _ _ 76 rfl 78 (.slice none 0 0) 24 Tryz.underlying76 infoSource rfl _ _ _ _ (srcs.length + 1) rfl rfl (by omega) (by omega) (by omega) (by unfold maxLen; omega) ?_)
  intro w4 r4 z4 k4
  have o0 : Dp.O1 w (.slice none words.length wcap) (.slice tad srcs.length tcap) words srcs [] (.slice none 0 0) w4 := by
   have hs4 : Dp.Row w4 (w.heap.size + 2) 78 (List.replicate (srcs.length + 1) (.slice none 0 0)) := by first | exact r4 | (rw [z3, z2] at r4; exact r4)
   refine ⟨r1c.keep k4 (fun e => e), r3'.keep k4 (fun e => e), ?_, by simpa [Dp.lentL] using Dp.Own.nil w4 47, fun q hq => by simp [Value.ownBlock] at hq, fun b hb => by simp at hb, List.nodup_nil, fun i h1 h2 => absurd h2 (by simp), k13.trans k4⟩
   simpa [Dp.cutL, Dp.nilV] using hs4
  clear r1c r3' m0c m1c k13 k4 r4 z2 z3 z4 heq
  go_wp2
  go_loopw [8, 9, 10] (fun vo i _ wr => ∃ (bs : List Nat), bs.length ≤ srcs.length ∧ i = .int .i64 (bs.length : Int) ∧ Dp.O1 w (.slice none words.length wcap) (.slice tad srcs.length tcap) words srcs bs vo wr) (fun _ i _ _ => srcs.length - (intOf i).toNat)
  case atStart => exact ⟨[], Nat.zero_le _, rfl, o0⟩
  case round =>
   obtain ⟨bs, hk, rfl, inv⟩ := hrel
   clear o0
   have ma := inv.made.cell 0
   have mb := inv.made.cell 1
   simp only [List.getElem?_cons_zero, List.getElem?_cons_succ] at ma mb
   by_cases hlt : bs.length < srcs.length
   ·obtain ⟨rfl, htb⟩ := HTN.out (by intro e; simp [e] at hlt)
    obtain ⟨hll, hct⟩ := HTC.out bs.length hlt
    have hcw : ∀ wx, Dp.Keeps (fun _ => False) w wx → wx.cell? ⟨tb, tq + bs.length, none⟩ = some (.string (Dp.str srcs[bs.length])) := fun wx kx => (kx.cell (p := ⟨tb, tq + bs.length, none⟩) htb (fun e => e)).trans hct
    have hc1 := hcw wr inv.keeps
    have hss := Dp.str_size srcs[bs.length]
    go_wp2_with fail
    refine (lent_any (Dp.str srcs[bs.length]) wr (by omega)).mono ?_
    rintro e w5 ⟨rfl, r5, z5, k5⟩
    rw [Dp.str_data] at r5
    rw [hss]
    clear hc1
    have hne := inv.low
    have hfr := Hid.mk_ inv.fresh
    have hsz := inv.s.lt
    have kal := (Dp.Keeps.refl (fun _ => False) w5).alloc (.cells #[.slice (some ⟨wr.heap.size, 0, none⟩) (srcs[bs.length].length + 2) (srcs[bs.length].length + 2)] 47)
    have k5a := k5.trans kal
    have inva := inv.still k5a
    have HO := Hid.mk_ inva.own
    have NW : Hid (∀ j u, [Value.slice (some ⟨wr.heap.size, 0, none⟩) (srcs[bs.length].length + 2) (srcs[bs.length].length + 2)][j]? = some u → (w5.alloc (.cells #[.slice (some ⟨wr.heap.size, 0, none⟩) (srcs[bs.length].length + 2) (srcs[bs.length].length + 2)] 47)).cell? ((⟨w5.heap.size, 0, none⟩ : Addr).add j) = some u) := fun j u h => cell_one_new w5 _ _ j u h
    have HLL : Hid ((Dp.lentL srcs bs).length = bs.length) := Dp.lentL_length srcs bs (by omega)
    rw [z5] at NW
    go_wp2_with (at_builtin; refine Dp.wpList_append_Own rfl _ _ 27 rfl 47 (.slice none 0 0) 24 Tryz.underlying27 infoBytes rfl u8 (Dp.lentL srcs bs) rfl HO.out ⟨wr.heap.size + 1, 0, none⟩ 1 1 [.slice (some ⟨wr.heap.size, 0, none⟩) (srcs[bs.length].length + 2) (srcs[bs.length].length + 2)] rfl rfl NW.out (fun x hx => by simp at hx; subst hx; rfl) (by omega) (by rw [HLL.out]; unfold maxLen; omega) (by rw [HLL.out]; omega) ?_)
    intro v6 w6 o6 k6 s6
    have hno : ∀ q, q < w.heap.size + 3 → ¬ u8.ownBlock = some q := fun q hq e => by have := hfr.out q e; omega
    have made6 := inva.made.keep k6 (hno _ (by omega))
    have s6r := inva.s.keep k6 (hno _ (by omega))
    have ma6 := made6.cell 0
    have mb6 := made6.cell 1
    simp only [List.getElem?_cons_zero, List.getElem?_cons_succ] at ma6 mb6
    have kw6 : Dp.Keeps (fun _ => False) w w6 := inva.keeps.next k6 (fun q hq e => hno q (by omega) e)
    have ct6 := hcw w6 kw6
    have cs6 : w6.cell? ⟨w.heap.size + 1 + 1, bs.length, none⟩ = some (.slice none 0 0) := by
     refine (s6r.cell bs.length).trans ?_
     rw [List.getElem?_append_right (by rw [Dp.cutL_length srcs bs (by omega)]; omega), Dp.cutL_length srcs bs (by omega), Nat.sub_self, show srcs.length + 1 - bs.length = (srcs.length - bs.length) + 1 by omega, List.replicate_succ]
     rfl
    have fs6 : w6.frozen? ⟨w.heap.size + 1 + 1, bs.length, none⟩ = false := s6r.frozen bs.length
    have hf2 : v6.ownBlock = u8.ownBlock ∨ ∀ q, v6.ownBlock = some q → wr.heap.size ≤ q := by
     rcases s6.out with hh | hh
     ·exact .inl hh.1
     ·refine .inr fun q hq => ?_
      rw [hh.1] at hq
      have := k5a.size
      simp at hq this
      omega
    have INV := Hid.mk_ (inv.step hlt (r5.keep kal (fun e => e)) k5a o6 k6 hf2)
    obtain ⟨ad6, cap6, ev6⟩ := o6.isSlice
    have hl6 : (Dp.lentL srcs bs ++ [Value.slice (some ⟨wr.heap.size, 0, none⟩) (srcs[bs.length].length + 2) (srcs[bs.length].length + 2)]).length = bs.length + 1 := by rw [List.length_append, HLL.out]; rfl
    rw [hl6] at ev6
    subst ev6
    have HBL : Hid ((bs ++ [wr.heap.size]).length = bs.length + 1) := by unfold Hid; simp
    clear r5 k5 kal k5a inva HO NW o6 k6 s6 s6r made6 ma mb hcw hf2 inv hl6 z5
    generalize srcs[bs.length].length = LS at *
    go_wp2
    go_roundw
    case rel => exact ⟨bs ++ [wr.heap.size], by rw [HBL.out]; omega, by rw [HBL.out]; go_num, INV.out⟩
    case measure => simp [intOf]; omega
   ·have hbl : bs.length = srcs.length := by omega
    have HSL : Hid (∀ l ∈ srcs, l.length ≤ 1048576) := by
     intro l hl
     obtain ⟨i, hi, rfl⟩ := List.getElem_of_mem hl
     exact (HTC.out i hi).1
    have HPP := Hid.mk_ (inv.parts hbl htlen HSL.out (srcs.length + 1))
    have HHI : Hid (Dp.Ints wr (.slice none 0 0) words) := by
     have hwz := List.length_eq_zero_iff.1 HWZ.out
     rw [hwz]
     exact ⟨0, 0, none, 0, rfl, by simp, fun e => absurd rfl e, fun i hi => absurd hi (by simp)⟩
    obtain ⟨NN, hNN⟩ : ∃ NN, NN = wr.heap.size := ⟨_, rfl⟩
    have HNN := Hid.mk_ hNN
    have hNW : w.heap.size + 2 < NN := by rw [hNN]; exact inv.s.lt
    have HBN : Hid (∀ q ∈ bs, q < NN) := fun q hq => by rw [hNN]; exact inv.lt (by omega) q hq
    clear hNN
    cases hok : Dp.newOk words srcs with
    | false =>
     go_wp2_with fail
     refine (progNewErr wr (.slice none 0 0) _ words srcs HHI.out H64.out HPP.out htlen HSL.out hok).mono ?_
     rintro e w5 ⟨rfl, k5⟩
     have inv5 := inv.still k5
     have ma5 := inv5.made.cell 0
     have mb5 := inv5.made.cell 1
     simp only [List.getElem?_cons_zero, List.getElem?_cons_succ] at ma5 mb5
     clear inv ma mb
     go_wp2_with fail
     refine (refNew w5 _ _ words srcs (HW.out.still inv5.keeps) (HT.out.still inv5.keeps)).mono ?_
     rintro e w6 ⟨k6, hcase⟩
     have he : e = .returned (.pointer none) := by
      rcases hcase with ⟨_, h⟩ | ⟨h, _⟩
      ·exact h
      ·rw [hok] at h; exact absurd h (by decide)
     subst he
     have HOK := Hid.mk_ hok
     have inv6 := inv5.still k6
     have HN6 : Hid (NN ≤ w6.heap.size) := by unfold Hid; have := HNN.out; have := k5.size; have := k6.size; omega
     clear hcase inv5 ma5 mb5 k5 k6
     have ma6 := inv6.made.cell 0
     have mb6 := inv6.made.cell 1
     simp only [List.getElem?_cons_zero, List.getElem?_cons_succ] at ma6 mb6
     have hrl : (Dp.regCells words).length = words.length := by simp [Dp.regCells]
     have cl6 : w6.cell? ⟨w.heap.size + 1, words.length, none⟩ = some (.int .i64 0) := by
      rw [inv6.l.cell, List.getElem?_append_right (by omega), hrl, Nat.sub_self]; rfl
     have cs6 : w6.cell? ⟨w.heap.size + 1 + 1, srcs.length, none⟩ = some (.slice none 0 0) := by
      refine (inv6.s.cell srcs.length).trans ?_
      have hcl := Dp.cutL_length srcs bs (by omega)
      rw [List.getElem?_append_right (by omega), hcl, hbl, Nat.sub_self, show srcs.length + 1 - srcs.length = 1 by omega]
      rfl
     have HI6 := Hid.mk_ inv6
     have l6 := inv6.l
     have mad6 := inv6.made
     have kw6 := inv6.keeps
     clear inv6
     go_wp2
     clear ma6 mb6 cl6 cs6
     go_loopw [14, 15] (fun ok i wr => ∃ k : Nat, k ≤ words.length + 1 ∧ ok = .bool true ∧ i = .int .i64 k ∧ Dp.Row wr (w.heap.size + 1) 3 (List.replicate k (.int .i64 (-7)) ++ (Dp.regCells words ++ [Value.int .i64 0]).drop k) ∧ Dp.Keeps (fun q => q = w.heap.size + 1) w6 wr) (fun _ i _ => words.length + 1 - (intOf i).toNat)
     case atStart => exact ⟨0, Nat.zero_le _, rfl, rfl, by simpa using l6, Dp.Keeps.refl _ _⟩
     case round =>
      obtain ⟨k, hk, rfl, rfl, lk, kk⟩ := hrel
      clear l6
      have hL : (Dp.regCells words ++ [Value.int .i64 0]).length = words.length + 1 := by rw [List.length_append, hrl]; rfl
      have madk := mad6.keep kk (show ¬ w.heap.size = w.heap.size + 1 by omega)
      have mak := madk.cell 0
      simp only [List.getElem?_cons_zero] at mak
      by_cases hlt : k < words.length + 1
      ·have ck := Dp.fill_cell lk (by omega)
       have fk := lk.frozen k
       have HLK : Hid (Dp.Row (wr.setCell ⟨w.heap.size + 1, k, none⟩ (.int .i64 (-7))) (w.heap.size + 1) 3 (List.replicate (k + 1) (.int .i64 (-7)) ++ (Dp.regCells words ++ [Value.int .i64 0]).drop (k + 1))) := by
        have h := lk.set k (.int .i64 (-7))
        rw [Dp.fill_step _ _ _ (by omega)] at h
        exact h
       have HKK : Hid (Dp.Keeps (fun q => q = w.heap.size + 1) w6 (wr.setCell ⟨w.heap.size + 1, k, none⟩ (.int .i64 (-7)))) := kk.setCell (p := ⟨w.heap.size + 1, k, none⟩) (.inr rfl) _
       clear lk madk
       by_cases hkw : k < words.length
       ·have hck : (Dp.regCells words ++ [Value.int .i64 0])[k]'(by omega) = .int .i64 words[k] := by
         rw [List.getElem_append_left (by omega)]; simp [Dp.regCells]
        rw [hck] at ck
        obtain ⟨ewa, hwb⟩ := HWN.out (by intro e; simp [e] at hkw)
        exact absurd ewa (by simp)
       ·have ek : k = words.length := by omega
        have hck : (Dp.regCells words ++ [Value.int .i64 0])[k]'(by omega) = .int .i64 0 := by
         rw [List.getElem_append_right (by omega)]; simp [hrl, ek]
        rw [hck] at ck
        clear hL hrl hck
        subst ek
        go_wp2
        go_region
        go_wp2
        go_roundw
        case rel => exact ⟨words.length + 1, by omega, rfl, by go_num, HLK.out, HKK.out.drew⟩
        case measure => simp [intOf]
      ·have ek : k = words.length + 1 := by omega
       have lA : Dp.Row wr (w.heap.size + 1) 3 (List.replicate (words.length + 1) (.int .i64 (-7))) := by
        rw [ek, List.drop_eq_nil_of_le (by omega), List.append_nil] at lk; exact lk
       have i6 := HI6.out
       have hlb : ∀ q, q ≠ w.heap.size + 1 → ¬ q = w.heap.size + 1 := fun _ h => h
       have hexA : ∃ wA, Dp.O3G w wA W t0 t1 t2 t3 t4 t5 y2 (.slice none words.length wcap) (.slice tad srcs.length tcap) words srcs bs u8 0 t2 wr ∧ Dp.Keeps (fun _ => False) w wA ∧ Dp.Keeps (fun q => q = w.heap.size + 1) w6 wA := by
        refine ⟨wr, ⟨madk, lA, ?_, i6.own.keep kk (fun q hq e => ?_), fun q hq => ⟨i6.fresh q hq, ?_⟩, fun b hb => ⟨i6.low b hb, Nat.lt_of_lt_of_le (i6.lt (by omega) b hb) kk.size⟩, i6.dup, hWlt, ((HR.out.keep i6.keeps (fun e => e)).keep kk (by omega)), by rw [List.take_zero, List.append_nil]; exact (HO2.out.keep i6.keeps (fun _ _ e => e)).keep kk (fun q hq e => by have := HOLD.out q (.inr (.inl hq)); omega), fun q hq => .inr hq, fun q hq => HOLD.out q (.inr (.inl hq)), fun i h1 h2 h3 => absurd h3 (by omega), fun i h1 h2 h3 => (i6.rows i h1 h2).keep kk (fun e => ?_), Dp.Keeps.refl _ _⟩, i6.keeps.next kk (fun q hq e => by omega), kk⟩
        ·have hs := i6.s.keep kk (show ¬ w.heap.size + 2 = w.heap.size + 1 by omega)
         rw [hbl, show srcs.length + 1 - srcs.length = 1 by omega] at hs
         exact hs
        ·have := i6.fresh q hq; omega
        ·exact Nat.lt_of_lt_of_le (i6.own.lt q hq) kk.size
        ·have := i6.low _ (List.getElem_mem h2); omega
       obtain ⟨wA, O30, kwA, k6A⟩ := hexA
       clear lk lA madk mak i6 hlb kk mad6 kw6 ek
       go_wp2
       clear hlt
       go_loopw [14, 16, 17, 18] (fun ok i _ _ wr => ∃ (k : Nat) (v2 : Value), k ≤ srcs.length ∧ ok = .bool true ∧ i = .int .i64 k ∧ Dp.O3G w wA W t0 t1 t2 t3 t4 t5 y2 (.slice none words.length wcap) (.slice tad srcs.length tcap) words srcs bs u8 k v2 wr) (fun _ i _ _ _ => srcs.length - (intOf i).toNat)
       case atStart => exact ⟨0, t2, Nat.zero_le _, rfl, rfl, O30⟩
       case round =>
        obtain ⟨k3, v2, hk3, rfl, rfl, o3⟩ := hrel
        clear O30
        have mb3 := o3.made.cell 1
        simp only [List.getElem?_cons_zero, List.getElem?_cons_succ] at mb3
        by_cases hlt3 : k3 < srcs.length
        ·obtain ⟨rfl, htb⟩ := HTN.out (by intro e; simp [e] at hlt3)
         obtain ⟨hll, hct⟩ := HTC.out k3 hlt3
         have hkb : k3 < bs.length := by omega
         have htW : tb ≠ W := (HBT.out (by intro e; simp [e] at hlt3) tb tq rfl).1
         have htA := Nat.lt_of_lt_of_le htb kwA.size
         have hct3 : wr.cell? ⟨tb, tq + k3, none⟩ = some (.string (Dp.str srcs[k3])) := by
          rw [o3.keeps.cell (p := ⟨tb, tq + k3, none⟩) htA (by rintro (e | e | e); exact htW e; have := (o3.low _ e).1; simp at this; omega; exact (HBT.out (by intro e; simp [e] at hlt3) tb tq rfl).2 e), kwA.cell (p := ⟨tb, tq + k3, none⟩) htb (fun e => e)]
          exact hct
         have cs3 : wr.cell? ⟨w.heap.size + 1 + 1, k3, none⟩ = some (.slice (some ⟨bs[k3], 0, none⟩) srcs[k3].length (srcs[k3].length + 2)) := by
          refine (o3.s.cell k3).trans ?_
          have hcl := Dp.cutL_length srcs bs (by omega)
          rw [List.getElem?_append_left (by omega), Dp.cutL_get srcs bs k3 hlt3 hkb]
         have hss := Dp.str_size srcs[k3]
         have hll3 := Dp.lentL_length srcs bs (by omega)
         obtain ⟨og, otail, hu, hro, hole⟩ : ∃ og otail, u8 = .slice (some ⟨og, 0, none⟩) (Dp.lentL srcs bs).length ((Dp.lentL srcs bs).length + otail.length) ∧ Dp.Row wr og 47 (Dp.lentL srcs bs ++ otail) ∧ (Dp.lentL srcs bs).length + otail.length ≤ maxLen := by
          rcases o3.own with ⟨_, hx⟩ | h
          ·rw [hx] at hll3; simp at hll3; omega
          ·exact h
         rw [hll3] at hu hole
         subst hu
         have co3 : wr.cell? ⟨og, k3, none⟩ = some (.slice (some ⟨bs[k3], 0, none⟩) (srcs[k3].length + 2) (srcs[k3].length + 2)) := by
          rw [hro.cell, List.getElem?_append_left (by omega), Dp.lentL_get srcs bs k3 hlt3 hkb]
         have HO3 := Hid.mk_ o3
         have HSS := Hid.mk_ hss
         rw [hbl]
         clear hct hro hole hll3
         generalize hLS : srcs[k3].length = LS at *
         have HLS := Hid.mk_ hLS
         clear hLS
         have q8 : ∀ wx, Dp.Keeps (fun _ => False) wr wx → wx.cell? ⟨og, k3, none⟩ = some (.slice (some ⟨bs[k3], 0, none⟩) (LS + 2) (LS + 2)) := fun wx kx => (kx.cell (p := ⟨og, k3, none⟩) (Dp.cell_lt co3) (fun e => e)).trans co3
         have qm : ∀ wx, Dp.Keeps (fun _ => False) wr wx → wx.cell? ⟨w.heap.size, 1, none⟩ = some (.slice (some ⟨tb, tq, none⟩) srcs.length tcap) := fun wx kx => (kx.cell (p := ⟨w.heap.size, 1, none⟩) (Dp.cell_lt mb3) (fun e => e)).trans mb3
         have qt : ∀ wx, Dp.Keeps (fun _ => False) wr wx → wx.cell? ⟨tb, tq + k3, none⟩ = some (.string (Dp.str srcs[k3])) := fun wx kx => (kx.cell (p := ⟨tb, tq + k3, none⟩) (Dp.cell_lt hct3) (fun e => e)).trans hct3
         have hS0 : Dp.Keeps (fun _ => False) wr wr.drew.drew := (Dp.Keeps.refl _ _).drew.drew
         clear o3
         go_wp2
         go_region
         go_wp2
         clear co3 mb3 hct3 cs3
         refine Dp.wp_region_L (fun wx => Dp.Keeps (fun _ => False) wr wx) 10 mixedP ?_
         refine' Dp.tj 0 hS0 ?_
         simp only [Act.put, Dp.tks]
         refine' Dp.tj 1 hS0 ?_
         simp only [Act.put, Dp.tks]
         refine' Dp.tj 2 hS0 ?_
         simp only [Act.put, Dp.tks]
         refine' Dp.tj 3 hS0 ?_
         simp only [Act.put, Dp.tks]
         refine' Dp.tj 4 hS0 ?_
         simp only [Act.put, Dp.tks]
         refine' Dp.tj 5 hS0 ?_
         simp only [Act.put, Dp.tks]
         refine' Dp.tj 6 hS0 ?_
         simp only [Act.put, Dp.tks]
         refine' Dp.tj 7 hS0 ?_
         simp only [Act.put, Dp.tks]
         refine' Dp.tj 8 hS0 ?_
         simp only [Act.put, Dp.tks]
         refine' Dp.tj 9 hS0 ?_
         simp only [Act.put, Dp.tks]
         refine Dp.wpAnyL_one 10 rfl (by kernel_rfl) (by rfl) (fun K hK => ?_)
         go_simp
         have o3d := HO3.out.still hS0
         have hrow := o3d.rows k3 hlt3 hkb (Nat.le_refl _)
         have hcall := returned_any (Dp.str srcs[k3]) wr.drew.drew W bs[k3] t0 t1 v2 t3 t4 t5 (y2 ++ (Dp.lentL srcs bs).take k3) (by omega) (by rw [List.length_append, List.length_take]; have := HYS.out.2.1; omega) (by rw [Dp.str_data]; exact hrow) o3d.world o3d.own2
         rw [HSS.out] at hcall
         refine hcall.mono ?_
         clear hcall
         rintro e w7 ⟨rfl, hb7, hk7, v7, hN7, ho7, hf7⟩
         have O37 := o3d.step hbl hlt3 hkb (by rw [HLS.out]; exact hb7) hk7 hN7 (by rw [HLS.out]; exact ho7) hf7
         rw [hbl] at O37
         refine hK _ _ ⟨fun h => absurd h (Nat.lt_irrefl _), ?_⟩
         clear hK K hb7 hk7 hN7 ho7 hf7 o3d hrow q8 qm qt
         refine Dp.wpAnyL_rest (by kernel_rfl) ?_
         refine' Dp.wpAny_pure 11 rfl (by kernel_rfl) (fun _ _ _ h => h) (.inl ⟨by rfl, ?hpfn11⟩) ?pestfn11
         case hpfn11 => intro wx; go_simp; try with_reducible rfl
         simp only [Act.put, Dp.tks]
         refine wpAny_done (by kernel_rfl) ?_ _
         go_wp2
         go_roundw
         case rel => exact ⟨k3 + 1, v7, by omega, rfl, by go_num, O37⟩
         case measure => simp [intOf]; omega
        ·have e3 : k3 = srcs.length := by omega
         subst e3
         have HO3 := Hid.mk_ o3
         have hslt := o3.s.lt
         have hexB : ∃ wB, Dp.O4 w wB srcs bs [] wr ∧ Dp.O3G w wA W t0 t1 t2 t3 t4 t5 y2 (.slice none words.length wcap) (.slice tad srcs.length tcap) words srcs bs u8 srcs.length v2 wB ∧ w.heap.size + 2 < wB.heap.size := ⟨wr, ⟨by simpa [Dp.turnL] using o3.s, fun t ht => by simp at ht, Dp.Keeps.refl _ _⟩, o3, hslt⟩
         obtain ⟨wB, O40, O3B, hwB⟩ := hexB
         have hcl5 : (Dp.cutL srcs bs ++ [Dp.nilV]).length = srcs.length + 1 := by rw [List.length_append, Dp.cutL_length srcs bs (by omega), hbl]; rfl
         clear o3 HO3 hslt
         go_wp2
         clear mb3 hlt3
         go_loopw [19] (fun i wr => ∃ (ts : List Nat), ts.length ≤ srcs.length + 1 ∧ i = .int .i64 (ts.length : Int) ∧ Dp.O4 w wB srcs bs ts wr) (fun i _ => srcs.length + 1 - (intOf i).toNat)
         case atStart => exact ⟨[], Nat.zero_le _, rfl, O40⟩
         case round =>
          obtain ⟨ts, hts, rfl, o4⟩ := hrel
          clear O40
          by_cases hlt4 : ts.length < srcs.length + 1
          ·have HO4 : Hid (Dp.O4 w wB srcs bs (ts ++ [wr.heap.size]) ((wr.alloc (.cells #[.int .u8 116, .int .u8 117, .int .u8 114, .int .u8 110, .int .u8 101, .int .u8 100] 5 (6, 7))).setCell ⟨w.heap.size + 1 + 1, ts.length, none⟩ (.slice (some ⟨wr.heap.size, 0, none⟩) 6 6))) := o4.step hwB (by rw [hcl5]; exact hlt4)
           have s5 := o4.s.allocOld (.cells #[.int .u8 116, .int .u8 117, .int .u8 114, .int .u8 110, .int .u8 101, .int .u8 100] 5 (6, 7))
           obtain ⟨u5, c5⟩ : ∃ u5, (wr.alloc (.cells #[.int .u8 116, .int .u8 117, .int .u8 114, .int .u8 110, .int .u8 101, .int .u8 100] 5 (6, 7))).cell? ⟨w.heap.size + 1 + 1, ts.length, none⟩ = some u5 := ⟨_, s5.cellAt ts.length (by simp only [List.length_append, List.length_drop, Dp.turnL, List.length_map]; rw [List.length_append] at hcl5; omega)⟩
           have f5 : (wr.alloc (.cells #[.int .u8 116, .int .u8 117, .int .u8 114, .int .u8 110, .int .u8 101, .int .u8 100] 5 (6, 7))).frozen? ⟨w.heap.size + 1 + 1, ts.length, none⟩ = false := s5.frozen ts.length
           have HBL : Hid ((ts ++ [wr.heap.size]).length = ts.length + 1) := by unfold Hid; simp
           clear s5 o4
           have hcv : (convert 78 78 (.slice (some ⟨wr.heap.size, 0, none⟩) 6 6)).run Tryz.prog (wr.alloc (.cells #[.int .u8 116, .int .u8 117, .int .u8 114, .int .u8 110, .int .u8 101, .int .u8 100] 5)) = .ok (.slice (some ⟨wr.heap.size, 0, none⟩) 6 6) (wr.alloc (.cells #[.int .u8 116, .int .u8 117, .int .u8 114, .int .u8 110, .int .u8 101, .int .u8 100] 5 (6, 7))) := Lib.run_convert_bytes_const wr 78 5 _ 6 6 Tryz.underlying78 Tryz.underlying5
           go_wp2
           clear hcv
           go_roundw
           case rel => exact ⟨ts ++ [wr.heap.size], by rw [HBL.out]; omega, by rw [HBL.out]; go_num, HO4.out⟩
           case measure => simp [intOf]; omega
          ·have et : ts.length = srcs.length + 1 := by omega
           have hsA : w.heap.size + 2 < wA.heap.size := Nat.lt_of_lt_of_le HI6.out.s.lt k6A.size
           have rowW := O3B.world.keep o4.keeps (show ¬ W = w.heap.size + 2 by omega)
           have sr : Dp.Row wr (w.heap.size + 2) 78 (Dp.turnL ts) := by
            have h := o4.s
            rw [List.drop_eq_nil_of_le (by omega), List.append_nil] at h; exact h
           have lr := O3B.l.keep o4.keeps (show ¬ w.heap.size + 1 = w.heap.size + 2 by omega)
           have HNW2 : Hid (∀ q, v2.ownBlock = some q → ¬ q = W) := fun q hq e => O3B.own2.ne O3B.world (by decide) q hq e
           have HF2 : Hid (∀ q, v2.ownBlock = some q → w6.heap.size ≤ q ∨ t2.ownBlock = some q) := fun q hq => (O3B.fresh2 q hq).imp (fun e => by have := k6A.size; omega) id
           have ow2 : Dp.Own wr 47 v2 (y2 ++ Dp.lentL srcs bs) := by
            have h := O3B.own2.keep o4.keeps (fun q hq e => by rcases O3B.fresh2 q hq with e' | e'; omega; have := HOLD.out q (.inr (.inl e')); omega)
            rw [List.take_of_length_le (by rw [Dp.lentL_length srcs bs (by omega), hbl]; exact Nat.le_refl _)] at h; exact h
           have trn : ∀ i (h1 : i < srcs.length) (h2 : i < bs.length), Dp.Row wr bs[i] 5 (List.replicate (srcs[i].length + 2) (.int .u8 251)) := fun i h1 h2 => (O3B.turned i h1 h2 (by omega)).keep o4.keeps (by have := (O3B.low _ (List.getElem_mem h2)).1; omega)
           have HLOW : Hid (∀ q ∈ bs, w.heap.size + 3 ≤ q) := fun q hq => (O3B.low q hq).1
           have HTS := Hid.mk_ o4.rows
           have HMK : Hid (∀ t ∈ ts, Dp.Marked wr t) := fun t ht => (o4.rows t ht).1
           have kAB := O3B.keeps
           have kBr := o4.keeps
           have HKW : Hid (Dp.Keeps (fun q => q = W ∨ t2.ownBlock = some q) w wr) := ((kwA.mono (fun _ _ e => e.elim)).next kAB (fun q hq e => by rcases e with e | e | e; exact .inl e; have := HLOW.out q e; omega; exact .inr e)).next kBr (fun q hq e => by omega)
           have HK6 : Hid (Dp.Keeps (fun q => q < NN) w6 wr) := ((k6A.mono (fun q hq e => by omega)).next kAB (fun q hq e => by rcases e with e | e | e; omega; exact HBN.out q e; have := HOLD.out q (.inr (.inl e)); omega)).next kBr (fun q hq e => by omega)
           have HSR := Hid.mk_ sr
           have HLR := Hid.mk_ lr
           have HOW := Hid.mk_ ow2
           have HTR := Hid.mk_ trn
           have HTSL : Hid (∀ t ∈ ts, w6.heap.size ≤ t) := fun t ht => by have := (HTS.out t ht).2; have := O3B.keeps.size; have := k6A.size; omega
           have hz6 := HK6.out.size
           have HU3 : Hid (Dp.Own wr 22 t3 y3) := HO3X.out.keep HKW.out (fun q hq e => by
            rcases e with e | e
            ·exact HO3X.out.ne HR.out (by decide) q hq e
            ·exact Dp.own_own HO3X.out HO2.out (by decide) q hq e)
           have HU5 : Hid (Dp.Own wr 76 t5 y5) := HO5.out.keep HKW.out (fun q hq e => by
            rcases e with e | e
            ·exact HO5.out.ne HR.out (by decide) q hq e
            ·exact Dp.own_own HO5.out HO2.out (by decide) q hq e)
           have HU0 : Hid (Dp.Own wr 71 t0 y0) := HO0.out.keep HKW.out (fun q hq e => by
            rcases e with e | e
            ·exact HO0.out.ne HR.out (by decide) q hq e
            ·exact Dp.own_own HO0.out HO2.out (by decide) q hq e)
           have HRW := Hid.mk_ rowW
           have c3 := rowW.cell 3
           simp only [List.getElem?_cons_zero, List.getElem?_cons_succ] at c3
           have NW : Hid (∀ j u, [Value.slice (some ⟨w.heap.size + 1, 0, none⟩) (words.length + 1) (words.length + 1)][j]? = some u → (wr.alloc (.cells #[.slice (some ⟨w.heap.size + 1, 0, none⟩) (words.length + 1) (words.length + 1)] 22)).cell? ((⟨wr.heap.size, 0, none⟩ : Addr).add j) = some u) := fun j u h => cell_one_new wr _ _ j u h
           have kal := (Dp.Keeps.refl (fun _ => False) wr).alloc (.cells #[.slice (some ⟨w.heap.size + 1, 0, none⟩) (words.length + 1) (words.length + 1)] 22)
           clear o4 O3B sr lr ow2 trn kAB kBr
           go_wp2_with (at_builtin; refine Dp.wpList_append_Own rfl _ _ 28 rfl 22 (.slice none 0 0) 24 Tryz.underlying28 infoInts rfl t3 y3 rfl (HU3.out.keep kal (fun _ _ e => e)) ⟨wr.heap.size, 0, none⟩ 1 1 [.slice (some ⟨w.heap.size + 1, 0, none⟩) (words.length + 1) (words.length + 1)] rfl rfl NW.out (fun x hx => by simp at hx; subst hx; rfl) (by omega) (by have := HYS.out.2.2.1; simp [maxLen]; omega) (by have := HYS.out.2.2.1; omega) ?_)
           intro v9 w9 o9 k9 s9
           have k9' : Dp.Keeps (fun q => t3.ownBlock = some q) wr w9 := (kal.mono (fun _ _ e => e.elim)).trans k9
           have rowW9 := rowW.keep k9' (fun e => HU3.out.ne rowW (by decide) W e rfl)
           obtain ⟨ad9, cap9, ev9⟩ := o9.isSlice
           generalize hN9 : (y3 ++ [Value.slice (some ⟨w.heap.size + 1, 0, none⟩) (words.length + 1) (words.length + 1)]).length = N9 at ev9
           clear hN9
           subst ev9
           have HF3 : Hid (∀ q, (Value.slice ad9 N9 cap9).ownBlock = some q → w6.heap.size ≤ q ∨ t3.ownBlock = some q) := by
            intro q hq
            rcases s9.out with hh | hh
            ·exact .inr (hh.1 ▸ hq)
            ·rw [hh.1] at hq
             simp at hq
             exact .inl (by omega)
           have c3' := rowW9.cell 3
           simp only [List.getElem?_cons_zero, List.getElem?_cons_succ] at c3'
           have f3' := rowW9.frozen 3
           have rowW10 := rowW9.set 3 (.slice ad9 N9 cap9)
           simp only [List.set_cons_zero, List.set_cons_succ] at rowW10
           have kset : Dp.Keeps (fun q => q = W) w9 (w9.setCell ⟨W, 3, none⟩ (.slice ad9 N9 cap9)) := Dp.Keeps.setCell (S := fun q => q = W) (p := ⟨W, 3, none⟩) (Dp.Keeps.refl _ _) (.inr rfl) _
           have o10 := o9.keep kset (fun q hq e => o9.ne rowW9 (by decide) q hq e)
           have c5 := rowW10.cell 5
           simp only [List.getElem?_cons_zero, List.getElem?_cons_succ] at c5
           have NW2 := Hid.mk_ (fun j u h => cell_one_new (w9.setCell ⟨W, 3, none⟩ (.slice ad9 N9 cap9)) (.slice (some ⟨w.heap.size + 1 + 1, 0, none⟩) (srcs.length + 1) (srcs.length + 1)) 76 j u h)
           rw [World.size_setCell] at NW2
           have kal2 := (Dp.Keeps.refl (fun _ => False) (w9.setCell ⟨W, 3, none⟩ (.slice ad9 N9 cap9))).alloc (.cells #[.slice (some ⟨w.heap.size + 1 + 1, 0, none⟩) (srcs.length + 1) (srcs.length + 1)] 76)
           have kr10 : Dp.Keeps (fun q => q = W ∨ t3.ownBlock = some q) wr (w9.setCell ⟨W, 3, none⟩ (.slice ad9 N9 cap9)) := (k9'.mono (fun _ _ e => .inr e)).next kset (fun _ _ e => .inl e)
           have hz10 : wr.heap.size ≤ w9.heap.size := k9'.size
           have HU5b : Hid (Dp.Own (w9.setCell ⟨W, 3, none⟩ (.slice ad9 N9 cap9)) 76 t5 y5) := HU5.out.keep kr10 (fun q hq e => by
            rcases e with e | e
            ·exact HU5.out.ne rowW (by decide) q hq e
            ·exact Dp.own_own HU5.out HU3.out (by decide) q hq e)
           clear c3 k9 s9 o9 kal rowW kset NW rowW9
           go_wp2_with (at_builtin; refine Dp.wpList_append_Own rfl _ _ 30 rfl 76 (.slice none 0 0) 24 Tryz.underlying30 infoSources rfl t5 y5 rfl (HU5b.out.keep kal2 (fun _ _ e => e)) ⟨w9.heap.size, 0, none⟩ 1 1 [.slice (some ⟨w.heap.size + 1 + 1, 0, none⟩) (srcs.length + 1) (srcs.length + 1)] rfl rfl NW2.out (fun x hx => by simp at hx; subst hx; rfl) (by omega) (by have := HYS.out.2.2.2; simp [maxLen]; omega) (by have := HYS.out.2.2.2; omega) ?_)
           intro v11 w11 o11 k11 s11
           have k11' : Dp.Keeps (fun q => t5.ownBlock = some q) (w9.setCell ⟨W, 3, none⟩ (.slice ad9 N9 cap9)) w11 := (kal2.mono (fun _ _ e => e.elim)).trans k11
           have rowW11 := rowW10.keep k11' (fun e => HU5b.out.ne rowW10 (by decide) W e rfl)
           have o3x := o10.keep k11' (fun q hq e => Dp.own_own o10 HU5b.out (by decide) q hq e)
           obtain ⟨ad11, cap11, ev11⟩ := o11.isSlice
           generalize hN11 : (y5 ++ [Value.slice (some ⟨w.heap.size + 1 + 1, 0, none⟩) (srcs.length + 1) (srcs.length + 1)]).length = N11 at ev11
           clear hN11
           subst ev11
           have HF5 : Hid (∀ q, (Value.slice ad11 N11 cap11).ownBlock = some q → w6.heap.size ≤ q ∨ t5.ownBlock = some q) := by
            intro q hq
            rcases s11.out with hh | hh
            ·exact .inr (hh.1 ▸ hq)
            ·rw [hh.1] at hq
             simp at hq
             exact .inl (by omega)
           have c5' := rowW11.cell 5
           simp only [List.getElem?_cons_zero, List.getElem?_cons_succ] at c5'
           have f5' := rowW11.frozen 5
           have rowW12 := rowW11.set 5 (.slice ad11 N11 cap11)
           simp only [List.set_cons_zero, List.set_cons_succ] at rowW12
           have kset2 : Dp.Keeps (fun q => q = W) w11 (w11.setCell ⟨W, 5, none⟩ (.slice ad11 N11 cap11)) := Dp.Keeps.setCell (S := fun q => q = W) (p := ⟨W, 5, none⟩) (Dp.Keeps.refl _ _) (.inr rfl) _
           have kr12 : Dp.Keeps (fun q => q = W ∨ t3.ownBlock = some q ∨ t5.ownBlock = some q) wr (w11.setCell ⟨W, 5, none⟩ (.slice ad11 N11 cap11)) := ((kr10.mono (fun _ _ e => e.imp id .inl)).next k11' (fun _ _ e => .inr (.inr e))).next kset2 (fun _ _ e => .inl e)
           have HOL2 : Hid (∀ q, w.heap.size ≤ q → ¬ (q = W ∨ t3.ownBlock = some q ∨ t5.ownBlock = some q)) := fun q hq e => by
            rcases e with e | e | e
            ·have := HOLD.out q (.inl e); omega
            ·have := HOLD.out q (.inr (.inr (.inl e))); omega
            ·have := HOLD.out q (.inr (.inr (.inr (.inl e)))); omega
           have HU0b : Hid (Dp.Own (w11.setCell ⟨W, 5, none⟩ (.slice ad11 N11 cap11)) 71 t0 y0) := HU0.out.keep kr12 (fun q hq e => by
            rcases e with e | e | e
            ·exact HU0.out.ne HRW.out (by decide) q hq e
            ·exact Dp.own_own HU0.out HU3.out (by decide) q hq e
            ·exact Dp.own_own HU0.out HU5.out (by decide) q hq e)
           have HOP : Hid (Dp.OpenedG (w11.setCell ⟨W, 5, none⟩ (.slice ad11 N11 cap11)) W (w.heap.size + 1) (w.heap.size + 2) t0 t1 v2 (.slice ad9 N9 cap9) t4 (.slice ad11 N11 cap11) y2 y3 y5 words.length srcs bs ts) := by
            refine ⟨rowW12, HOW.out.keep kr12 (fun q hq e => ?_), fun i h1 h2 => (HTR.out i h1 h2).keep kr12 (HOL2.out _ (by have := HLOW.out _ (List.getElem_mem h2); omega)), o3x.keep kset2 (fun q hq e => o3x.ne rowW11 (by decide) q hq e), HLR.out.keep kr12 (HOL2.out _ (by omega)), o11.keep kset2 (fun q hq e => o11.ne rowW11 (by decide) q hq e), HSR.out.keep kr12 (HOL2.out _ (by omega)), fun t ht => (HMK.out t ht).keep kr12 (HOL2.out _ (by have := (HTS.out t ht).2; omega)), hbl, et⟩
            rcases e with e | e | e
            ·exact HNW2.out q hq e
            ·exact Dp.own_own HOW.out HU3.out (by decide) q hq e
            ·exact Dp.own_own HOW.out HU5.out (by decide) q hq e
           have HKF : Hid (Dp.Keeps (fun q => q = W ∨ t2.ownBlock = some q ∨ t3.ownBlock = some q ∨ t5.ownBlock = some q ∨ t0.ownBlock = some q) w (w11.setCell ⟨W, 5, none⟩ (.slice ad11 N11 cap11))) := (HKW.out.mono (fun _ _ e => e.imp id .inl)).next kr12 (fun _ _ e => by rcases e with e | e | e; exact .inl e; exact .inr (.inr (.inl e)); exact .inr (.inr (.inr (.inl e))))
           have HK6F : Hid (Dp.Keeps (fun q => q < NN) w6 (w11.setCell ⟨W, 5, none⟩ (.slice ad11 N11 cap11))) := HK6.out.next kr12 (fun q hq e => by rcases e with e | e | e; omega; have := HOLD.out q (.inr (.inr (.inl e))); omega; have := HOLD.out q (.inr (.inr (.inr (.inl e)))); omega)
           have hz11 : w6.heap.size ≤ w11.heap.size := by have h1 := kr12.size; simp at h1; omega
           clear c5 c3' f3' k11 s11 o11 o10 rowW10 rowW11 kal2 NW2 kset2 kr10 kr12 k11' k9' o3x HTS HMK HSR HLR HOW HTR HU3 HU5 HU5b HU0 HRW
           go_wp2
           go_ret
           exact ⟨rfl, t0, v2, .slice ad9 N9 cap9, .slice ad11 N11 cap11, bs, ts, NN, w6.heap.size, ⟨HOP.out, fun q hq => ⟨HLOW.out q hq, HBN.out q hq⟩, HTSL.out, HF2.out, HF3.out, HF5.out, ⟨hNW, HN6.out⟩, HKF.out⟩, .inl ⟨HOK.out, rfl, HU0b.out⟩⟩
    | true =>
     go_wp2_with fail
     refine (progNew wr (.slice none 0 0) _ words srcs HHI.out HPP.out hok).mono ?_
     rintro e w5 ⟨⟨b, pvs, G, rfl, hb5, hG5, pm5⟩, k5⟩
     have inv5 := inv.still k5
     have ma5 := inv5.made.cell 0
     have mb5 := inv5.made.cell 1
     simp only [List.getElem?_cons_zero, List.getElem?_cons_succ] at ma5 mb5
     clear inv ma mb
     go_wp2_with fail
     refine (refNew w5 _ _ words srcs (HW.out.still inv5.keeps) (HT.out.still inv5.keeps)).mono ?_
     rintro e w6 ⟨k6, hcase⟩
     obtain ⟨p, g, vr, he, hp6, hg6, hv6, rm6⟩ : ∃ p g vr, e = .returned (.pointer (some ⟨p, 0, none⟩)) ∧ w5.heap.size ≤ p ∧ w5.heap.size ≤ g ∧ (∀ q, vr.ownBlock = some q → w5.heap.size ≤ q) ∧ Dp.RefM w6 p g vr (Dp.newMach words srcs) := by
      rcases hcase with ⟨h, _⟩ | ⟨_, h⟩
      ·rw [hok] at h; exact absurd h (by decide)
      ·exact h
     subst he
     have HOK := Hid.mk_ hok
     have inv6 := inv5.still k6
     have HN6 : Hid (NN ≤ w6.heap.size) := by unfold Hid; have := HNN.out; have := k5.size; have := k6.size; omega
     have HPM := Hid.mk_ (pm5.keep k6 (fun e => e) (fun _ _ e => e))
     have HRM := Hid.mk_ rm6
     have hk5s := k5.size
     have HBB : Hid (NN ≤ b ∧ NN ≤ p ∧ NN ≤ g) := by
      unfold Hid; have := HNN.out; omega
     have HGG : Hid (∀ q, G q → NN ≤ q) := fun q hq => by have := hG5 q hq; have := HNN.out; omega
     have HVV : Hid (∀ q, vr.ownBlock = some q → NN ≤ q) := fun q hq => by have := hv6 q hq; have := HNN.out; omega
     have HAP : Hid (∀ q, G q → q ≠ p ∧ q ≠ g) := fun q hq => by have := (pm5.own q hq).1; omega
     clear hcase inv5 ma5 mb5 k5 k6 pm5 rm6 hb5 hG5 hp6 hg6 hv6 hk5s
     have ma6 := inv6.made.cell 0
     have mb6 := inv6.made.cell 1
     simp only [List.getElem?_cons_zero, List.getElem?_cons_succ] at ma6 mb6
     have hrl : (Dp.regCells words).length = words.length := by simp [Dp.regCells]
     have cl6 : w6.cell? ⟨w.heap.size + 1, words.length, none⟩ = some (.int .i64 0) := by
      rw [inv6.l.cell, List.getElem?_append_right (by omega), hrl, Nat.sub_self]; rfl
     have cs6 : w6.cell? ⟨w.heap.size + 1 + 1, srcs.length, none⟩ = some (.slice none 0 0) := by
      refine (inv6.s.cell srcs.length).trans ?_
      have hcl := Dp.cutL_length srcs bs (by omega)
      rw [List.getElem?_append_right (by omega), hcl, hbl, Nat.sub_self, show srcs.length + 1 - srcs.length = 1 by omega]
      rfl
     have HI6 := Hid.mk_ inv6
     have l6 := inv6.l
     have mad6 := inv6.made
     have kw6 := inv6.keeps
     clear inv6
     go_wp2
     clear ma6 mb6 cl6 cs6
     go_loopw [14, 15] (fun ok i wr => ∃ k : Nat, k ≤ words.length + 1 ∧ ok = .bool true ∧ i = .int .i64 k ∧ Dp.Row wr (w.heap.size + 1) 3 (List.replicate k (.int .i64 (-7)) ++ (Dp.regCells words ++ [Value.int .i64 0]).drop k) ∧ Dp.Keeps (fun q => q = w.heap.size + 1) w6 wr) (fun _ i _ => words.length + 1 - (intOf i).toNat)
     case atStart => exact ⟨0, Nat.zero_le _, rfl, rfl, by simpa using l6, Dp.Keeps.refl _ _⟩
     case round =>
      obtain ⟨k, hk, rfl, rfl, lk, kk⟩ := hrel
      clear l6
      have hL : (Dp.regCells words ++ [Value.int .i64 0]).length = words.length + 1 := by rw [List.length_append, hrl]; rfl
      have madk := mad6.keep kk (show ¬ w.heap.size = w.heap.size + 1 by omega)
      have mak := madk.cell 0
      simp only [List.getElem?_cons_zero] at mak
      by_cases hlt : k < words.length + 1
      ·have ck := Dp.fill_cell lk (by omega)
       have fk := lk.frozen k
       have HLK : Hid (Dp.Row (wr.setCell ⟨w.heap.size + 1, k, none⟩ (.int .i64 (-7))) (w.heap.size + 1) 3 (List.replicate (k + 1) (.int .i64 (-7)) ++ (Dp.regCells words ++ [Value.int .i64 0]).drop (k + 1))) := by
        have h := lk.set k (.int .i64 (-7))
        rw [Dp.fill_step _ _ _ (by omega)] at h
        exact h
       have HKK : Hid (Dp.Keeps (fun q => q = w.heap.size + 1) w6 (wr.setCell ⟨w.heap.size + 1, k, none⟩ (.int .i64 (-7)))) := kk.setCell (p := ⟨w.heap.size + 1, k, none⟩) (.inr rfl) _
       clear lk madk
       by_cases hkw : k < words.length
       ·have hck : (Dp.regCells words ++ [Value.int .i64 0])[k]'(by omega) = .int .i64 words[k] := by
         rw [List.getElem_append_left (by omega)]; simp [Dp.regCells]
        rw [hck] at ck
        obtain ⟨ewa, hwb⟩ := HWN.out (by intro e; simp [e] at hkw)
        exact absurd ewa (by simp)
       ·have ek : k = words.length := by omega
        have hck : (Dp.regCells words ++ [Value.int .i64 0])[k]'(by omega) = .int .i64 0 := by
         rw [List.getElem_append_right (by omega)]; simp [hrl, ek]
        rw [hck] at ck
        clear hL hrl hck
        subst ek
        go_wp2
        go_region
        go_wp2
        go_roundw
        case rel => exact ⟨words.length + 1, by omega, rfl, by go_num, HLK.out, HKK.out.drew⟩
        case measure => simp [intOf]
      ·have ek : k = words.length + 1 := by omega
       have lA : Dp.Row wr (w.heap.size + 1) 3 (List.replicate (words.length + 1) (.int .i64 (-7))) := by
        rw [ek, List.drop_eq_nil_of_le (by omega), List.append_nil] at lk; exact lk
       have i6 := HI6.out
       have hlb : ∀ q, q ≠ w.heap.size + 1 → ¬ q = w.heap.size + 1 := fun _ h => h
       have hexA : ∃ wA, Dp.O3G w wA W t0 t1 t2 t3 t4 t5 y2 (.slice none words.length wcap) (.slice tad srcs.length tcap) words srcs bs u8 0 t2 wr ∧ Dp.Keeps (fun _ => False) w wA ∧ Dp.Keeps (fun q => q = w.heap.size + 1) w6 wA := by
        refine ⟨wr, ⟨madk, lA, ?_, i6.own.keep kk (fun q hq e => ?_), fun q hq => ⟨i6.fresh q hq, ?_⟩, fun b hb => ⟨i6.low b hb, Nat.lt_of_lt_of_le (i6.lt (by omega) b hb) kk.size⟩, i6.dup, hWlt, ((HR.out.keep i6.keeps (fun e => e)).keep kk (by omega)), by rw [List.take_zero, List.append_nil]; exact (HO2.out.keep i6.keeps (fun _ _ e => e)).keep kk (fun q hq e => by have := HOLD.out q (.inr (.inl hq)); omega), fun q hq => .inr hq, fun q hq => HOLD.out q (.inr (.inl hq)), fun i h1 h2 h3 => absurd h3 (by omega), fun i h1 h2 h3 => (i6.rows i h1 h2).keep kk (fun e => ?_), Dp.Keeps.refl _ _⟩, i6.keeps.next kk (fun q hq e => by omega), kk⟩
        ·have hs := i6.s.keep kk (show ¬ w.heap.size + 2 = w.heap.size + 1 by omega)
         rw [hbl, show srcs.length + 1 - srcs.length = 1 by omega] at hs
         exact hs
        ·have := i6.fresh q hq; omega
        ·exact Nat.lt_of_lt_of_le (i6.own.lt q hq) kk.size
        ·have := i6.low _ (List.getElem_mem h2); omega
       obtain ⟨wA, O30, kwA, k6A⟩ := hexA
       clear lk lA madk mak i6 hlb kk mad6 kw6 ek
       go_wp2
       clear hlt
       go_loopw [14, 16, 17, 18] (fun ok i _ _ wr => ∃ (k : Nat) (v2 : Value), k ≤ srcs.length ∧ ok = .bool true ∧ i = .int .i64 k ∧ Dp.O3G w wA W t0 t1 t2 t3 t4 t5 y2 (.slice none words.length wcap) (.slice tad srcs.length tcap) words srcs bs u8 k v2 wr) (fun _ i _ _ _ => srcs.length - (intOf i).toNat)
       case atStart => exact ⟨0, t2, Nat.zero_le _, rfl, rfl, O30⟩
       case round =>
        obtain ⟨k3, v2, hk3, rfl, rfl, o3⟩ := hrel
        clear O30
        have mb3 := o3.made.cell 1
        simp only [List.getElem?_cons_zero, List.getElem?_cons_succ] at mb3
        by_cases hlt3 : k3 < srcs.length
        ·obtain ⟨rfl, htb⟩ := HTN.out (by intro e; simp [e] at hlt3)
         obtain ⟨hll, hct⟩ := HTC.out k3 hlt3
         have hkb : k3 < bs.length := by omega
         have htW : tb ≠ W := (HBT.out (by intro e; simp [e] at hlt3) tb tq rfl).1
         have htA := Nat.lt_of_lt_of_le htb kwA.size
         have hct3 : wr.cell? ⟨tb, tq + k3, none⟩ = some (.string (Dp.str srcs[k3])) := by
          rw [o3.keeps.cell (p := ⟨tb, tq + k3, none⟩) htA (by rintro (e | e | e); exact htW e; have := (o3.low _ e).1; simp at this; omega; exact (HBT.out (by intro e; simp [e] at hlt3) tb tq rfl).2 e), kwA.cell (p := ⟨tb, tq + k3, none⟩) htb (fun e => e)]
          exact hct
         have cs3 : wr.cell? ⟨w.heap.size + 1 + 1, k3, none⟩ = some (.slice (some ⟨bs[k3], 0, none⟩) srcs[k3].length (srcs[k3].length + 2)) := by
          refine (o3.s.cell k3).trans ?_
          have hcl := Dp.cutL_length srcs bs (by omega)
          rw [List.getElem?_append_left (by omega), Dp.cutL_get srcs bs k3 hlt3 hkb]
         have hss := Dp.str_size srcs[k3]
         have hll3 := Dp.lentL_length srcs bs (by omega)
         obtain ⟨og, otail, hu, hro, hole⟩ : ∃ og otail, u8 = .slice (some ⟨og, 0, none⟩) (Dp.lentL srcs bs).length ((Dp.lentL srcs bs).length + otail.length) ∧ Dp.Row wr og 47 (Dp.lentL srcs bs ++ otail) ∧ (Dp.lentL srcs bs).length + otail.length ≤ maxLen := by
          rcases o3.own with ⟨_, hx⟩ | h
          ·rw [hx] at hll3; simp at hll3; omega
          ·exact h
         rw [hll3] at hu hole
         subst hu
         have co3 : wr.cell? ⟨og, k3, none⟩ = some (.slice (some ⟨bs[k3], 0, none⟩) (srcs[k3].length + 2) (srcs[k3].length + 2)) := by
          rw [hro.cell, List.getElem?_append_left (by omega), Dp.lentL_get srcs bs k3 hlt3 hkb]
         have HO3 := Hid.mk_ o3
         have HSS := Hid.mk_ hss
         rw [hbl]
         clear hct hro hole hll3
         generalize hLS : srcs[k3].length = LS at *
         have HLS := Hid.mk_ hLS
         clear hLS
         have q8 : ∀ wx, Dp.Keeps (fun _ => False) wr wx → wx.cell? ⟨og, k3, none⟩ = some (.slice (some ⟨bs[k3], 0, none⟩) (LS + 2) (LS + 2)) := fun wx kx => (kx.cell (p := ⟨og, k3, none⟩) (Dp.cell_lt co3) (fun e => e)).trans co3
         have qm : ∀ wx, Dp.Keeps (fun _ => False) wr wx → wx.cell? ⟨w.heap.size, 1, none⟩ = some (.slice (some ⟨tb, tq, none⟩) srcs.length tcap) := fun wx kx => (kx.cell (p := ⟨w.heap.size, 1, none⟩) (Dp.cell_lt mb3) (fun e => e)).trans mb3
         have qt : ∀ wx, Dp.Keeps (fun _ => False) wr wx → wx.cell? ⟨tb, tq + k3, none⟩ = some (.string (Dp.str srcs[k3])) := fun wx kx => (kx.cell (p := ⟨tb, tq + k3, none⟩) (Dp.cell_lt hct3) (fun e => e)).trans hct3
         have hS0 : Dp.Keeps (fun _ => False) wr wr.drew.drew := (Dp.Keeps.refl _ _).drew.drew
         clear o3
         go_wp2
         go_region
         go_wp2
         clear co3 mb3 hct3 cs3
         refine Dp.wp_region_L (fun wx => Dp.Keeps (fun _ => False) wr wx) 10 mixedP ?_
         refine' Dp.tj 0 hS0 ?_
         simp only [Act.put, Dp.tks]
         refine' Dp.tj 1 hS0 ?_
         simp only [Act.put, Dp.tks]
         refine' Dp.tj 2 hS0 ?_
         simp only [Act.put, Dp.tks]
         refine' Dp.tj 3 hS0 ?_
         simp only [Act.put, Dp.tks]
         refine' Dp.tj 4 hS0 ?_
         simp only [Act.put, Dp.tks]
         refine' Dp.tj 5 hS0 ?_
         simp only [Act.put, Dp.tks]
         refine' Dp.tj 6 hS0 ?_
         simp only [Act.put, Dp.tks]
         refine' Dp.tj 7 hS0 ?_
         simp only [Act.put, Dp.tks]
         refine' Dp.tj 8 hS0 ?_
         simp only [Act.put, Dp.tks]
         refine' Dp.tj 9 hS0 ?_
         simp only [Act.put, Dp.tks]
         refine Dp.wpAnyL_one 10 rfl (by kernel_rfl) (by rfl) (fun K hK => ?_)
         go_simp
         have o3d := HO3.out.still hS0
         have hrow := o3d.rows k3 hlt3 hkb (Nat.le_refl _)
         have hcall := returned_any (Dp.str srcs[k3]) wr.drew.drew W bs[k3] t0 t1 v2 t3 t4 t5 (y2 ++ (Dp.lentL srcs bs).take k3) (by omega) (by rw [List.length_append, List.length_take]; have := HYS.out.2.1; omega) (by rw [Dp.str_data]; exact hrow) o3d.world o3d.own2
         rw [HSS.out] at hcall
         refine hcall.mono ?_
         clear hcall
         rintro e w7 ⟨rfl, hb7, hk7, v7, hN7, ho7, hf7⟩
         have O37 := o3d.step hbl hlt3 hkb (by rw [HLS.out]; exact hb7) hk7 hN7 (by rw [HLS.out]; exact ho7) hf7
         rw [hbl] at O37
         refine hK _ _ ⟨fun h => absurd h (Nat.lt_irrefl _), ?_⟩
         clear hK K hb7 hk7 hN7 ho7 hf7 o3d hrow q8 qm qt
         refine Dp.wpAnyL_rest (by kernel_rfl) ?_
         refine' Dp.wpAny_pure 11 rfl (by kernel_rfl) (fun _ _ _ h => h) (.inl ⟨by rfl, ?hptn11⟩) ?pesttn11
         case hptn11 => intro wx; go_simp; try with_reducible rfl
         simp only [Act.put, Dp.tks]
         refine wpAny_done (by kernel_rfl) ?_ _
         go_wp2
         go_roundw
         case rel => exact ⟨k3 + 1, v7, by omega, rfl, by go_num, O37⟩
         case measure => simp [intOf]; omega
        ·have e3 : k3 = srcs.length := by omega
         subst e3
         have HO3 := Hid.mk_ o3
         have hslt := o3.s.lt
         have hexB : ∃ wB, Dp.O4 w wB srcs bs [] wr ∧ Dp.O3G w wA W t0 t1 t2 t3 t4 t5 y2 (.slice none words.length wcap) (.slice tad srcs.length tcap) words srcs bs u8 srcs.length v2 wB ∧ w.heap.size + 2 < wB.heap.size := ⟨wr, ⟨by simpa [Dp.turnL] using o3.s, fun t ht => by simp at ht, Dp.Keeps.refl _ _⟩, o3, hslt⟩
         obtain ⟨wB, O40, O3B, hwB⟩ := hexB
         have hcl5 : (Dp.cutL srcs bs ++ [Dp.nilV]).length = srcs.length + 1 := by rw [List.length_append, Dp.cutL_length srcs bs (by omega), hbl]; rfl
         clear o3 HO3 hslt
         go_wp2
         clear mb3 hlt3
         go_loopw [19] (fun i wr => ∃ (ts : List Nat), ts.length ≤ srcs.length + 1 ∧ i = .int .i64 (ts.length : Int) ∧ Dp.O4 w wB srcs bs ts wr) (fun i _ => srcs.length + 1 - (intOf i).toNat)
         case atStart => exact ⟨[], Nat.zero_le _, rfl, O40⟩
         case round =>
          obtain ⟨ts, hts, rfl, o4⟩ := hrel
          clear O40
          by_cases hlt4 : ts.length < srcs.length + 1
          ·have HO4 : Hid (Dp.O4 w wB srcs bs (ts ++ [wr.heap.size]) ((wr.alloc (.cells #[.int .u8 116, .int .u8 117, .int .u8 114, .int .u8 110, .int .u8 101, .int .u8 100] 5 (6, 7))).setCell ⟨w.heap.size + 1 + 1, ts.length, none⟩ (.slice (some ⟨wr.heap.size, 0, none⟩) 6 6))) := o4.step hwB (by rw [hcl5]; exact hlt4)
           have s5 := o4.s.allocOld (.cells #[.int .u8 116, .int .u8 117, .int .u8 114, .int .u8 110, .int .u8 101, .int .u8 100] 5 (6, 7))
           obtain ⟨u5, c5⟩ : ∃ u5, (wr.alloc (.cells #[.int .u8 116, .int .u8 117, .int .u8 114, .int .u8 110, .int .u8 101, .int .u8 100] 5 (6, 7))).cell? ⟨w.heap.size + 1 + 1, ts.length, none⟩ = some u5 := ⟨_, s5.cellAt ts.length (by simp only [List.length_append, List.length_drop, Dp.turnL, List.length_map]; rw [List.length_append] at hcl5; omega)⟩
           have f5 : (wr.alloc (.cells #[.int .u8 116, .int .u8 117, .int .u8 114, .int .u8 110, .int .u8 101, .int .u8 100] 5 (6, 7))).frozen? ⟨w.heap.size + 1 + 1, ts.length, none⟩ = false := s5.frozen ts.length
           have HBL : Hid ((ts ++ [wr.heap.size]).length = ts.length + 1) := by unfold Hid; simp
           clear s5 o4
           have hcv : (convert 78 78 (.slice (some ⟨wr.heap.size, 0, none⟩) 6 6)).run Tryz.prog (wr.alloc (.cells #[.int .u8 116, .int .u8 117, .int .u8 114, .int .u8 110, .int .u8 101, .int .u8 100] 5)) = .ok (.slice (some ⟨wr.heap.size, 0, none⟩) 6 6) (wr.alloc (.cells #[.int .u8 116, .int .u8 117, .int .u8 114, .int .u8 110, .int .u8 101, .int .u8 100] 5 (6, 7))) := Lib.run_convert_bytes_const wr 78 5 _ 6 6 Tryz.underlying78 Tryz.underlying5
           go_wp2
           clear hcv
           go_roundw
           case rel => exact ⟨ts ++ [wr.heap.size], by rw [HBL.out]; omega, by rw [HBL.out]; go_num, HO4.out⟩
           case measure => simp [intOf]; omega
          ·have et : ts.length = srcs.length + 1 := by omega
           have hsA : w.heap.size + 2 < wA.heap.size := Nat.lt_of_lt_of_le HI6.out.s.lt k6A.size
           have rowW := O3B.world.keep o4.keeps (show ¬ W = w.heap.size + 2 by omega)
           have sr : Dp.Row wr (w.heap.size + 2) 78 (Dp.turnL ts) := by
            have h := o4.s
            rw [List.drop_eq_nil_of_le (by omega), List.append_nil] at h; exact h
           have lr := O3B.l.keep o4.keeps (show ¬ w.heap.size + 1 = w.heap.size + 2 by omega)
           have HNW2 : Hid (∀ q, v2.ownBlock = some q → ¬ q = W) := fun q hq e => O3B.own2.ne O3B.world (by decide) q hq e
           have HF2 : Hid (∀ q, v2.ownBlock = some q → w6.heap.size ≤ q ∨ t2.ownBlock = some q) := fun q hq => (O3B.fresh2 q hq).imp (fun e => by have := k6A.size; omega) id
           have ow2 : Dp.Own wr 47 v2 (y2 ++ Dp.lentL srcs bs) := by
            have h := O3B.own2.keep o4.keeps (fun q hq e => by rcases O3B.fresh2 q hq with e' | e'; omega; have := HOLD.out q (.inr (.inl e')); omega)
            rw [List.take_of_length_le (by rw [Dp.lentL_length srcs bs (by omega), hbl]; exact Nat.le_refl _)] at h; exact h
           have trn : ∀ i (h1 : i < srcs.length) (h2 : i < bs.length), Dp.Row wr bs[i] 5 (List.replicate (srcs[i].length + 2) (.int .u8 251)) := fun i h1 h2 => (O3B.turned i h1 h2 (by omega)).keep o4.keeps (by have := (O3B.low _ (List.getElem_mem h2)).1; omega)
           have HLOW : Hid (∀ q ∈ bs, w.heap.size + 3 ≤ q) := fun q hq => (O3B.low q hq).1
           have HTS := Hid.mk_ o4.rows
           have HMK : Hid (∀ t ∈ ts, Dp.Marked wr t) := fun t ht => (o4.rows t ht).1
           have kAB := O3B.keeps
           have kBr := o4.keeps
           have HKW : Hid (Dp.Keeps (fun q => q = W ∨ t2.ownBlock = some q) w wr) := ((kwA.mono (fun _ _ e => e.elim)).next kAB (fun q hq e => by rcases e with e | e | e; exact .inl e; have := HLOW.out q e; omega; exact .inr e)).next kBr (fun q hq e => by omega)
           have HK6 : Hid (Dp.Keeps (fun q => q < NN) w6 wr) := ((k6A.mono (fun q hq e => by omega)).next kAB (fun q hq e => by rcases e with e | e | e; omega; exact HBN.out q e; have := HOLD.out q (.inr (.inl e)); omega)).next kBr (fun q hq e => by omega)
           have HSR := Hid.mk_ sr
           have HLR := Hid.mk_ lr
           have HOW := Hid.mk_ ow2
           have HTR := Hid.mk_ trn
           have HTSL : Hid (∀ t ∈ ts, w6.heap.size ≤ t) := fun t ht => by have := (HTS.out t ht).2; have := O3B.keeps.size; have := k6A.size; omega
           have hz6 := HK6.out.size
           have HU3 : Hid (Dp.Own wr 22 t3 y3) := HO3X.out.keep HKW.out (fun q hq e => by
            rcases e with e | e
            ·exact HO3X.out.ne HR.out (by decide) q hq e
            ·exact Dp.own_own HO3X.out HO2.out (by decide) q hq e)
           have HU5 : Hid (Dp.Own wr 76 t5 y5) := HO5.out.keep HKW.out (fun q hq e => by
            rcases e with e | e
            ·exact HO5.out.ne HR.out (by decide) q hq e
            ·exact Dp.own_own HO5.out HO2.out (by decide) q hq e)
           have HU0 : Hid (Dp.Own wr 71 t0 y0) := HO0.out.keep HKW.out (fun q hq e => by
            rcases e with e | e
            ·exact HO0.out.ne HR.out (by decide) q hq e
            ·exact Dp.own_own HO0.out HO2.out (by decide) q hq e)
           have HRW := Hid.mk_ rowW
           have c3 := rowW.cell 3
           simp only [List.getElem?_cons_zero, List.getElem?_cons_succ] at c3
           have NW : Hid (∀ j u, [Value.slice (some ⟨w.heap.size + 1, 0, none⟩) (words.length + 1) (words.length + 1)][j]? = some u → (wr.alloc (.cells #[.slice (some ⟨w.heap.size + 1, 0, none⟩) (words.length + 1) (words.length + 1)] 22)).cell? ((⟨wr.heap.size, 0, none⟩ : Addr).add j) = some u) := fun j u h => cell_one_new wr _ _ j u h
           have kal := (Dp.Keeps.refl (fun _ => False) wr).alloc (.cells #[.slice (some ⟨w.heap.size + 1, 0, none⟩) (words.length + 1) (words.length + 1)] 22)
           clear o4 O3B sr lr ow2 trn kAB kBr
           go_wp2_with (at_builtin; refine Dp.wpList_append_Own rfl _ _ 28 rfl 22 (.slice none 0 0) 24 Tryz.underlying28 infoInts rfl t3 y3 rfl (HU3.out.keep kal (fun _ _ e => e)) ⟨wr.heap.size, 0, none⟩ 1 1 [.slice (some ⟨w.heap.size + 1, 0, none⟩) (words.length + 1) (words.length + 1)] rfl rfl NW.out (fun x hx => by simp at hx; subst hx; rfl) (by omega) (by have := HYS.out.2.2.1; simp [maxLen]; omega) (by have := HYS.out.2.2.1; omega) ?_)
           intro v9 w9 o9 k9 s9
           have k9' : Dp.Keeps (fun q => t3.ownBlock = some q) wr w9 := (kal.mono (fun _ _ e => e.elim)).trans k9
           have rowW9 := rowW.keep k9' (fun e => HU3.out.ne rowW (by decide) W e rfl)
           obtain ⟨ad9, cap9, ev9⟩ := o9.isSlice
           generalize hN9 : (y3 ++ [Value.slice (some ⟨w.heap.size + 1, 0, none⟩) (words.length + 1) (words.length + 1)]).length = N9 at ev9
           clear hN9
           subst ev9
           have HF3 : Hid (∀ q, (Value.slice ad9 N9 cap9).ownBlock = some q → w6.heap.size ≤ q ∨ t3.ownBlock = some q) := by
            intro q hq
            rcases s9.out with hh | hh
            ·exact .inr (hh.1 ▸ hq)
            ·rw [hh.1] at hq
             simp at hq
             exact .inl (by omega)
           have c3' := rowW9.cell 3
           simp only [List.getElem?_cons_zero, List.getElem?_cons_succ] at c3'
           have f3' := rowW9.frozen 3
           have rowW10 := rowW9.set 3 (.slice ad9 N9 cap9)
           simp only [List.set_cons_zero, List.set_cons_succ] at rowW10
           have kset : Dp.Keeps (fun q => q = W) w9 (w9.setCell ⟨W, 3, none⟩ (.slice ad9 N9 cap9)) := Dp.Keeps.setCell (S := fun q => q = W) (p := ⟨W, 3, none⟩) (Dp.Keeps.refl _ _) (.inr rfl) _
           have o10 := o9.keep kset (fun q hq e => o9.ne rowW9 (by decide) q hq e)
           have c5 := rowW10.cell 5
           simp only [List.getElem?_cons_zero, List.getElem?_cons_succ] at c5
           have NW2 := Hid.mk_ (fun j u h => cell_one_new (w9.setCell ⟨W, 3, none⟩ (.slice ad9 N9 cap9)) (.slice (some ⟨w.heap.size + 1 + 1, 0, none⟩) (srcs.length + 1) (srcs.length + 1)) 76 j u h)
           rw [World.size_setCell] at NW2
           have kal2 := (Dp.Keeps.refl (fun _ => False) (w9.setCell ⟨W, 3, none⟩ (.slice ad9 N9 cap9))).alloc (.cells #[.slice (some ⟨w.heap.size + 1 + 1, 0, none⟩) (srcs.length + 1) (srcs.length + 1)] 76)
           have kr10 : Dp.Keeps (fun q => q = W ∨ t3.ownBlock = some q) wr (w9.setCell ⟨W, 3, none⟩ (.slice ad9 N9 cap9)) := (k9'.mono (fun _ _ e => .inr e)).next kset (fun _ _ e => .inl e)
           have hz10 : wr.heap.size ≤ w9.heap.size := k9'.size
           have HU5b : Hid (Dp.Own (w9.setCell ⟨W, 3, none⟩ (.slice ad9 N9 cap9)) 76 t5 y5) := HU5.out.keep kr10 (fun q hq e => by
            rcases e with e | e
            ·exact HU5.out.ne rowW (by decide) q hq e
            ·exact Dp.own_own HU5.out HU3.out (by decide) q hq e)
           clear c3 k9 s9 o9 kal rowW kset NW rowW9
           go_wp2_with (at_builtin; refine Dp.wpList_append_Own rfl _ _ 30 rfl 76 (.slice none 0 0) 24 Tryz.underlying30 infoSources rfl t5 y5 rfl (HU5b.out.keep kal2 (fun _ _ e => e)) ⟨w9.heap.size, 0, none⟩ 1 1 [.slice (some ⟨w.heap.size + 1 + 1, 0, none⟩) (srcs.length + 1) (srcs.length + 1)] rfl rfl NW2.out (fun x hx => by simp at hx; subst hx; rfl) (by omega) (by have := HYS.out.2.2.2; simp [maxLen]; omega) (by have := HYS.out.2.2.2; omega) ?_)
           intro v11 w11 o11 k11 s11
           have k11' : Dp.Keeps (fun q => t5.ownBlock = some q) (w9.setCell ⟨W, 3, none⟩ (.slice ad9 N9 cap9)) w11 := (kal2.mono (fun _ _ e => e.elim)).trans k11
           have rowW11 := rowW10.keep k11' (fun e => HU5b.out.ne rowW10 (by decide) W e rfl)
           have o3x := o10.keep k11' (fun q hq e => Dp.own_own o10 HU5b.out (by decide) q hq e)
           obtain ⟨ad11, cap11, ev11⟩ := o11.isSlice
           generalize hN11 : (y5 ++ [Value.slice (some ⟨w.heap.size + 1 + 1, 0, none⟩) (srcs.length + 1) (srcs.length + 1)]).length = N11 at ev11
           clear hN11
           subst ev11
           have HF5 : Hid (∀ q, (Value.slice ad11 N11 cap11).ownBlock = some q → w6.heap.size ≤ q ∨ t5.ownBlock = some q) := by
            intro q hq
            rcases s11.out with hh | hh
            ·exact .inr (hh.1 ▸ hq)
            ·rw [hh.1] at hq
             simp at hq
             exact .inl (by omega)
           have c5' := rowW11.cell 5
           simp only [List.getElem?_cons_zero, List.getElem?_cons_succ] at c5'
           have f5' := rowW11.frozen 5
           have rowW12 := rowW11.set 5 (.slice ad11 N11 cap11)
           simp only [List.set_cons_zero, List.set_cons_succ] at rowW12
           have kset2 : Dp.Keeps (fun q => q = W) w11 (w11.setCell ⟨W, 5, none⟩ (.slice ad11 N11 cap11)) := Dp.Keeps.setCell (S := fun q => q = W) (p := ⟨W, 5, none⟩) (Dp.Keeps.refl _ _) (.inr rfl) _
           have kr12 : Dp.Keeps (fun q => q = W ∨ t3.ownBlock = some q ∨ t5.ownBlock = some q) wr (w11.setCell ⟨W, 5, none⟩ (.slice ad11 N11 cap11)) := ((kr10.mono (fun _ _ e => e.imp id .inl)).next k11' (fun _ _ e => .inr (.inr e))).next kset2 (fun _ _ e => .inl e)
           have HOL2 : Hid (∀ q, w.heap.size ≤ q → ¬ (q = W ∨ t3.ownBlock = some q ∨ t5.ownBlock = some q)) := fun q hq e => by
            rcases e with e | e | e
            ·have := HOLD.out q (.inl e); omega
            ·have := HOLD.out q (.inr (.inr (.inl e))); omega
            ·have := HOLD.out q (.inr (.inr (.inr (.inl e)))); omega
           have HU0b : Hid (Dp.Own (w11.setCell ⟨W, 5, none⟩ (.slice ad11 N11 cap11)) 71 t0 y0) := HU0.out.keep kr12 (fun q hq e => by
            rcases e with e | e | e
            ·exact HU0.out.ne HRW.out (by decide) q hq e
            ·exact Dp.own_own HU0.out HU3.out (by decide) q hq e
            ·exact Dp.own_own HU0.out HU5.out (by decide) q hq e)
           have HOP : Hid (Dp.OpenedG (w11.setCell ⟨W, 5, none⟩ (.slice ad11 N11 cap11)) W (w.heap.size + 1) (w.heap.size + 2) t0 t1 v2 (.slice ad9 N9 cap9) t4 (.slice ad11 N11 cap11) y2 y3 y5 words.length srcs bs ts) := by
            refine ⟨rowW12, HOW.out.keep kr12 (fun q hq e => ?_), fun i h1 h2 => (HTR.out i h1 h2).keep kr12 (HOL2.out _ (by have := HLOW.out _ (List.getElem_mem h2); omega)), o3x.keep kset2 (fun q hq e => o3x.ne rowW11 (by decide) q hq e), HLR.out.keep kr12 (HOL2.out _ (by omega)), o11.keep kset2 (fun q hq e => o11.ne rowW11 (by decide) q hq e), HSR.out.keep kr12 (HOL2.out _ (by omega)), fun t ht => (HMK.out t ht).keep kr12 (HOL2.out _ (by have := (HTS.out t ht).2; omega)), hbl, et⟩
            rcases e with e | e | e
            ·exact HNW2.out q hq e
            ·exact Dp.own_own HOW.out HU3.out (by decide) q hq e
            ·exact Dp.own_own HOW.out HU5.out (by decide) q hq e
           have HKF : Hid (Dp.Keeps (fun q => q = W ∨ t2.ownBlock = some q ∨ t3.ownBlock = some q ∨ t5.ownBlock = some q ∨ t0.ownBlock = some q) w (w11.setCell ⟨W, 5, none⟩ (.slice ad11 N11 cap11))) := (HKW.out.mono (fun _ _ e => e.imp id .inl)).next kr12 (fun _ _ e => by rcases e with e | e | e; exact .inl e; exact .inr (.inr (.inl e)); exact .inr (.inr (.inr (.inl e))))
           have HK6F : Hid (Dp.Keeps (fun q => q < NN) w6 (w11.setCell ⟨W, 5, none⟩ (.slice ad11 N11 cap11))) := HK6.out.next kr12 (fun q hq e => by rcases e with e | e | e; omega; have := HOLD.out q (.inr (.inr (.inl e))); omega; have := HOLD.out q (.inr (.inr (.inr (.inl e)))); omega)
           have hz11 : w6.heap.size ≤ w11.heap.size := by have h1 := kr12.size; simp at h1; omega
           clear c5 c3' f3' k11 s11 o11 o10 rowW10 rowW11 kal2 NW2 kset2 kr10 kr12 k11' k9' o3x HTS HMK HSR HLR HOW HTR HU3 HU5 HU5b HU0 HRW
           have c0 := HOP.out.row.cell 0
           simp only [List.getElem?_cons_zero] at c0
           have hzz : (w11.setCell ⟨W, 5, none⟩ (.slice ad11 N11 cap11)).heap.size = w11.heap.size := World.size_setCell _ _ _
           go_wp2_with (refine Dp.wpList_box_row rfl 70 _ rfl [.pointer (some ⟨b, 0, none⟩), .pointer (some ⟨p, 0, none⟩)] rfl ?_)
           intro w13 r13 z13 k13
           have r13' : Dp.Row w13 w11.heap.size 70 [.pointer (some ⟨b, 0, none⟩), .pointer (some ⟨p, 0, none⟩)] := by first | exact r13 | (rw [hzz] at r13; exact r13)
           have z13' : w13.heap.size = w11.heap.size + 1 := by first | exact z13 | (rw [hzz] at z13; exact z13)
           have NW3 := Hid.mk_ (fun j u h => cell_one_new w13 (.pointer (some ⟨w11.heap.size, 0, none⟩)) 71 j u h)
           rw [z13'] at NW3
           have kal3 := (Dp.Keeps.refl (fun _ => False) w13).alloc (.cells #[.pointer (some ⟨w11.heap.size, 0, none⟩)] 71)
           clear r13 z13 c0 hzz
           go_wp2_with (at_builtin; refine Dp.wpList_append_Own rfl _ _ 26 rfl 71 (.pointer none) 8 Tryz.underlying26 infoSideP rfl t0 y0 rfl ((HU0b.out.keep k13 (fun _ _ e => e)).keep kal3 (fun _ _ e => e)) ⟨w11.heap.size + 1, 0, none⟩ 1 1 [.pointer (some ⟨w11.heap.size, 0, none⟩)] rfl rfl NW3.out (fun x hx => by simp at hx; subst hx; rfl) (by omega) (by have := HYS.out.1; simp [maxLen]; omega) (by have := HYS.out.1; omega) ?_)
           intro v14 w14 o14 k14 s14
           obtain ⟨ad14, cap14, ev14⟩ := o14.isSlice
           generalize hN14 : (y0 ++ [Value.pointer (some ⟨w11.heap.size, 0, none⟩)]).length = N14 at ev14
           clear hN14
           subst ev14
           have HF0 : Hid (∀ q, (Value.slice ad14 N14 cap14).ownBlock = some q → w6.heap.size ≤ q ∨ t0.ownBlock = some q) := by
            intro q hq
            rcases s14.out with hh | hh
            ·exact .inr (hh.1 ▸ hq)
            ·rw [hh.1] at hq
             simp at hq
             exact .inl (by omega)
           have k14' : Dp.Keeps (fun q => t0.ownBlock = some q) (w11.setCell ⟨W, 5, none⟩ (.slice ad11 N11 cap11)) w14 := ((k13.trans kal3).mono (fun _ _ e => e.elim)).trans k14
           have HOL0 : Hid (∀ q, w.heap.size ≤ q → ¬ t0.ownBlock = some q) := fun q hq e => by have := HOLD.out q (.inr (.inr (.inr (.inr e)))); omega
           have op14 := HOP.out.keep k14' (fun e => HU0b.out.ne HOP.out.row (by decide) W e rfl) (fun q hq e => Dp.own_own HOP.out.own2 HU0b.out (by decide) q hq e) (fun q hq => HOL0.out q (by have := HLOW.out q hq; omega)) (fun q hq e => Dp.own_own HOP.out.own3 HU0b.out (by decide) q hq e) (HOL0.out _ (by omega)) (fun q hq e => Dp.own_own HOP.out.own5 HU0b.out (by decide) q hq e) (HOL0.out _ (by omega)) (fun q hq => HOL0.out q (by have := HTSL.out q hq; have := hNW; have := HN6.out; omega))
           have r14 := (r13'.keep kal3 (fun e => e)).keep k14 (HOL0.out _ (by have := HN6.out; omega))
           have d0 := op14.row.cell 0
           simp only [List.getElem?_cons_zero] at d0
           have g0 := op14.row.frozen 0
           have kset3 : Dp.Keeps (fun q => q = W) w14 (w14.setCell ⟨W, 0, none⟩ (.slice ad14 N14 cap14)) := Dp.Keeps.setCell (S := fun q => q = W) (p := ⟨W, 0, none⟩) (Dp.Keeps.refl _ _) (.inr rfl) _
           have HOP2 : Hid (Dp.OpenedG (w14.setCell ⟨W, 0, none⟩ (.slice ad14 N14 cap14)) W (w.heap.size + 1) (w.heap.size + 2) (.slice ad14 N14 cap14) t1 v2 (.slice ad9 N9 cap9) t4 (.slice ad11 N11 cap11) y2 y3 y5 words.length srcs bs ts) := by
            have hrow := op14.row.set 0 (.slice ad14 N14 cap14)
            refine ⟨hrow, op14.own2.keep kset3 (fun q hq e => op14.own2.ne op14.row (by decide) q hq e), fun i h1 h2 => (op14.turned i h1 h2).keep kset3 (by have := HLOW.out _ (List.getElem_mem h2); omega), op14.own3.keep kset3 (fun q hq e => op14.own3.ne op14.row (by decide) q hq e), op14.l.keep kset3 (by omega), op14.own5.keep kset3 (fun q hq e => op14.own5.ne op14.row (by decide) q hq e), op14.s.keep kset3 (by omega), fun t ht => (op14.marks t ht).keep kset3 (fun e => (op14.marks t ht).ne op14.row e), hbl, et⟩
           have HG15 : Hid (Dp.Own (w14.setCell ⟨W, 0, none⟩ (.slice ad14 N14 cap14)) 71 (.slice ad14 N14 cap14) (y0 ++ [.pointer (some ⟨w11.heap.size, 0, none⟩)])) := o14.keep kset3 (fun q hq e => o14.ne op14.row (by decide) q hq e)
           have HKF2 : Hid (Dp.Keeps (fun q => q = W ∨ t2.ownBlock = some q ∨ t3.ownBlock = some q ∨ t5.ownBlock = some q ∨ t0.ownBlock = some q) w (w14.setCell ⟨W, 0, none⟩ (.slice ad14 N14 cap14))) := (HKF.out.next k14' (fun _ _ e => .inr (.inr (.inr (.inr e))))).next kset3 (fun _ _ e => .inl e)
           have hk615 : Dp.Keeps (fun q => q < NN) w6 (w14.setCell ⟨W, 0, none⟩ (.slice ad14 N14 cap14)) := (HK6F.out.next k14' (fun q hq e => by have := HOLD.out q (.inr (.inr (.inr (.inr e)))); omega)).next kset3 (fun q hq e => by omega)
           have HSD : Hid (Dp.Side (w14.setCell ⟨W, 0, none⟩ (.slice ad14 N14 cap14)) w11.heap.size b p g G pvs vr (Dp.newMach words srcs)) := by
            refine ⟨r14.keep kset3 (fun e => r14.ne op14.row (by decide) e), HPM.out.keep hk615 (by have := HBB.out; omega) (fun q hq => by have := HGG.out q hq; omega), HRM.out.keep hk615 (by have := HBB.out; omega) (by have := HBB.out; omega) (fun q hq => by have := HVV.out q hq; omega), HAP.out⟩
           clear r13' k13 kal3 NW3 k14 s14 o14 k14' op14 r14 kset3 hk615 z13' HU0b
           go_wp2
           go_ret
           refine ⟨rfl, .slice ad14 N14 cap14, v2, .slice ad9 N9 cap9, .slice ad11 N11 cap11, bs, ts, NN, w6.heap.size, ⟨HOP2.out, fun q hq => ⟨HLOW.out q hq, HBN.out q hq⟩, HTSL.out, HF2.out, HF3.out, HF5.out, ⟨hNW, HN6.out⟩, HKF2.out⟩, .inr ⟨HOK.out, w11.heap.size, b, p, g, G, pvs, vr, HSD.out, HG15.out, HF0.out, hz11, ?_⟩⟩
           have hbb := HBB.out
           rintro q (e | e | e | e | e)
           ·exact ⟨by omega, e ▸ HPM.out.row.lt⟩
           ·exact ⟨by omega, e ▸ HRM.out.lt.1⟩
           ·exact ⟨by omega, e ▸ HRM.out.lt.2⟩
           ·exact ⟨HGG.out q e, (HPM.out.own q e).1⟩
           ·exact ⟨HVV.out q e, HRM.out.src.lt q e⟩
end Go.Proofs.YtdipojfngdceoaaGreatDoor
