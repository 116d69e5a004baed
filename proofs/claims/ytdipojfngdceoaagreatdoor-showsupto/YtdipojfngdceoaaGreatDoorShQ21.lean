/- Steps on the way: ProgNew3, ProgNew4. -/
import Derived.Test.YtdipojfngdceoaaGreatDoorShQ09
import Derived.Test.YtdipojfngdceoaaGreatDoorShQ20
namespace Go.Proofs.YtdipojfngdceoaaGreatDoor
open Go.RowKit
namespace Dp
theorem firstWords_zero (words : List Int) : firstWords words 0 = List.replicate 256 0 := by simp only [firstWords, List.take_zero, List.nil_append, Nat.sub_zero]
theorem firstWords_all (words : List Int) (srcs : List (List UInt8)) : firstWords words words.length = (newMach words srcs).cells := by
 simp only [firstWords, newMach, List.take_length]
theorem PartsIn.weak {G H : Nat → Prop} {w : World} {v : Value} {ls : List (List UInt8)} (h : PartsIn G w v ls) (hGH : ∀ q, G q → H q) : PartsIn H w v ls := by
 obtain ⟨b, o, ad, cap, hv, hl, hne, hc⟩ := h
 refine ⟨b, o, ad, cap, hv, hl, fun e => ⟨hGH _ (hne e).1, (hne e).2⟩, fun i hi => ?_⟩
 obtain ⟨b2, o2, ad2, cap2, h1, h2, h3, h4⟩ := hc i hi
 exact ⟨b2, o2, ad2, cap2, h1, h2, fun e => ⟨hGH _ (h3 e).1, (h3 e).2⟩, h4⟩
theorem Own.apart {w : World} {e f : TypeId} {v u : Value} {xs ys : List Value} (h : Own w e v xs) (h' : Own w f u ys) (hef : e ≠ f) : ∀ g, v.ownBlock = some g → ¬ u.ownBlock = some g := by
 intro g hg hu
 rcases h with ⟨rfl, _⟩ | ⟨g1, t1, rfl, r1, _⟩
 ·simp [Value.ownBlock] at hg
 rcases h' with ⟨rfl, _⟩ | ⟨g2, t2, rfl, r2, _⟩
 ·simp [Value.ownBlock] at hu
 simp [Value.ownBlock] at hg hu
 subst hg; subst hu
 exact r1.ne r2 hef rfl
structure Clones (B : Nat) (w : World) (srcs : List (List UInt8)) (k : Nat) (vs : Value) (vls : List Value) : Prop where
 own : Own w 78 vs vls
 new : ∀ q, vs.ownBlock = some q → B ≤ q
 len : vls.length = k
 each : ∀ i (h : i < vls.length) (h2 : i < srcs.length), Own w 5 vls[i] (vals srcs[i]) ∧ ∀ q, vls[i].ownBlock = some q → B ≤ q
theorem Clones.keep {S : Nat → Prop} {B : Nat} {w w' : World} {srcs : List (List UInt8)} {k : Nat} {vs : Value} {vls : List Value} (h : Clones B w srcs k vs vls) (kk : Keeps S w w') (h1 : ∀ q, vs.ownBlock = some q → ¬ S q) (h2 : ∀ i (h : i < vls.length), ∀ q, vls[i].ownBlock = some q → ¬ S q) : Clones B w' srcs k vs vls :=
 ⟨h.own.keep kk h1, h.new, h.len, fun i hi hi2 => ⟨(h.each i hi hi2).1.keep kk (h2 i hi), (h.each i hi hi2).2⟩⟩
theorem Clones.still {B : Nat} {w w' : World} {srcs : List (List UInt8)} {k : Nat} {vs : Value} {vls : List Value} (h : Clones B w srcs k vs vls) (kk : Keeps (fun _ => False) w w') : Clones B w' srcs k vs vls := h.keep kk (fun _ _ e => e) (fun _ _ _ _ e => e)
theorem Clones.parts {B : Nat} {w : World} {srcs : List (List UInt8)} {vs : Value} {vls : List Value} (h : Clones B w srcs srcs.length vs vls) (hm : srcs.length ≤ maxLen) (hm2 : ∀ l ∈ srcs, l.length ≤ maxLen) : PartsIn (fun k => B ≤ k ∧ k < w.heap.size) w vs srcs := by
 rcases h.own with ⟨hv, hx⟩ | ⟨g, tail, hv, hr, hle⟩
 ·have hz : srcs = [] := by
   have := h.len; rw [hx] at this
   exact List.length_eq_zero_iff.1 this.symm
  subst hz
  exact ⟨0, 0, none, 0, by rw [hv]; rfl, by simp [maxLen], fun e => absurd rfl e, fun i hi => absurd hi (by simp)⟩
 ·have hlen := h.len
  have hg : B ≤ g := h.new g (by rw [hv]; rfl)
  refine ⟨g, 0, some ⟨g, 0, none⟩, _, by rw [hv, hlen], hm, fun _ => ⟨⟨hg, hr.lt⟩, rfl⟩, fun i hi => ?_⟩
  have hi' : i < vls.length := by omega
  obtain ⟨ho, hn⟩ := h.each i hi' hi
  have hc : w.cell? ⟨g, 0 + i, none⟩ = some vls[i] := by
   rw [hr.cell, Nat.zero_add, List.getElem?_append_left hi', List.getElem?_eq_getElem hi']
  have hmm := hm2 _ (List.getElem_mem hi)
  rcases ho with ⟨e1, e2⟩ | ⟨g2, t2, e1, r2, l2⟩
  ·have hz : srcs[i] = [] := by
    have : (vals srcs[i]).length = 0 := by rw [e2]; rfl
    rw [vals_length] at this
    exact List.length_eq_zero_iff.1 this
   refine ⟨0, 0, none, 0, ?_, hmm, fun e => absurd hz e, fun j hj => ?_⟩
   ·rw [hc, e1, hz]; rfl
   ·rw [hz] at hj; simp at hj
  ·refine ⟨g2, 0, some ⟨g2, 0, none⟩, (vals srcs[i]).length + t2.length, ?_, hmm, fun _ => ⟨⟨hn g2 (by rw [e1]; rfl), r2.lt⟩, rfl⟩, fun j hj => ?_⟩
   ·rw [hc, e1, vals_length]
   ·rw [r2.cell, Nat.zero_add, List.getElem?_append_left (by rw [vals_length]; exact hj)]
    simp [vals, hj]
end Dp
set_option maxRecDepth 100000 in
set_option maxHeartbeats 2000000 in
theorem progMemNew (w : World) (vW vS : Value) (words : List Int) (srcs : List (List UInt8)) (hW : Dp.Ints w vW words) (hS : Dp.Parts w vS srcs) (hok : Dp.newOk words srcs = true) :
  Calls Tryz.prog 55 #[vW, vS] w fun e w' => ∃ vs, e = .returned (.tuple #[.agg (Dp.memCells vs (Dp.newMach words srcs).cells).toArray, .int .i64 0]) ∧ vs.oneCell' = true ∧ Dp.PartsIn (fun k => w.heap.size + 2 ≤ k ∧ k < w'.heap.size) w' vs srcs ∧ Dp.Keeps (fun _ => False) w w' := by
 have hok2 := hok
 rw [Dp.newOk_both, Bool.and_eq_true] at hok2
 obtain ⟨hok1, hok2⟩ := hok2
 have hwl : words.length ≤ 256 ∧ ∀ x ∈ words, 0 ≤ x ∧ x < 4294967296 := by
  unfold Dp.wordsOk at hok1
  simp only [Bool.and_eq_true, decide_eq_true_eq, List.all_eq_true] at hok1
  exact hok1
 have hsl : srcs.length ≤ 8 ∧ ∀ l ∈ srcs, l.length ≤ 200 := by
  unfold Dp.srcsOk at hok2
  simp only [Bool.and_eq_true, decide_eq_true_eq, List.all_eq_true] at hok2
  exact hok2
 obtain ⟨hwl, hwx⟩ := hwl
 obtain ⟨hsl, hsx⟩ := hsl
 have HWX := Hid.mk_ hwx
 have HSX := Hid.mk_ hsx
 have HWI := Hid.mk_ hW
 have HSI := Hid.mk_ hS
 have HA := Hid.mk_ hok1
 have HB := Hid.mk_ hok2
 have HFW := Hid.mk_ (Dp.firstWords_all words srcs)
 clear hok hok1 hok2 hwx hsx
 obtain ⟨wb, wo, wad, wcap, rfl, hwlen, hwne, hwc⟩ := hW
 obtain ⟨sb, so, sad, scap, rfl, hslen, hsne, hsc⟩ := hS
 have HWC := Hid.mk_ hwc
 have HWN := Hid.mk_ hwne
 have HSC := Hid.mk_ hsc
 have HSN := Hid.mk_ hsne
 clear hwc hwne hsc hsne
 go_enter Tryz.func55, Tryz.ntmps55
 go_wp2_with (refine Dp.wpList_alloc_row rfl 105 rfl _ zeroMem ?_)
 intro w1 r1 z1 k1
 go_wp2_with fail
 refine (progAreCells w1 _ words (HWI.out.still k1) (fun x hx => by have := HWX.out x hx; omega)).mono ?_
 rintro e w2 ⟨rfl, rfl⟩
 rw [HA.out]
 go_wp2_with fail
 refine (progAreSources w2 _ srcs (HSI.out.still k1) (by omega) (fun l hl => by have := HSX.out l hl; omega)).mono ?_
 rintro e w3 ⟨rfl, rfl⟩
 rw [HB.out]
 go_wp2_with (refine Dp.wpList_alloc_row rfl 105 rfl _ zeroMem ?_)
 intro w4 r4 z4 k4
 have r1' := r1.keep k4 (fun e => e)
 have kk4 := k1.trans k4
 have r4' : Dp.Row w4 (w.heap.size + 1) 105 (Dp.memCells (.slice none 0 0) (Dp.firstWords words 0)) := by rw [Dp.firstWords_zero]; exact r4
 have HR1 : Hid (Dp.Row w4 w.heap.size 105 Dp.zeroMemCells) := r1'
 clear r1 r1' k1 k4 z1 z4 r4
 go_wp2
 go_loopw [7, 8, 22] (fun _ _ i wr => ∃ k : Nat, k ≤ words.length ∧ i = .int .i64 k ∧ Dp.Row wr (w.heap.size + 1) 105 (Dp.memCells (.slice none 0 0) (Dp.firstWords words k)) ∧ Hid (Dp.Row wr w.heap.size 105 Dp.zeroMemCells) ∧ Dp.Keeps (fun _ => False) w wr) (fun _ _ i _ => words.length - (intOf i).toNat)
 case atStart => exact ⟨0, Nat.zero_le _, rfl, r4', HR1, kk4⟩
 case round =>
  obtain ⟨k, hk, rfl, rk, HRk, kk⟩ := hrel
  clear r4' HR1 kk4
  by_cases hlt : k < words.length
  ·obtain ⟨rfl, hwb⟩ := HWN.out (by intro e; simp [e] at hlt)
   have hxr := HWX.out _ (List.getElem_mem hlt)
   have ck : wr.cell? ⟨wb, wo + k, none⟩ = some (.int .i64 words[k]) := (kk.cell (p := ⟨wb, wo + k, none⟩) hwb (fun e => e)).trans (HWC.out k hlt)
   have rk' : Dp.Row wr (w.heap.size + 1) 105 ([] ++ Dp.memCells (.slice none 0 0) (Dp.firstWords words k) ++ []) := Dp.row_nil rk
   have hfl := Dp.firstWords_length words k (by omega) hwl
   have cc := Dp.memCells_word rk' rfl k (by omega)
   have fc := rk.frozen (0 + 1 + k)
   have HR := Dp.memCells_set rk' rfl k (by omega) words[k]
   rw [Dp.firstWords_step words k hlt hwl, List.append_nil] at HR
   simp only [List.length_nil, Nat.zero_add] at cc fc HR
   have HR2 : Hid (Dp.Row (wr.setCell ⟨w.heap.size + 1, 1 + k, none⟩ (.int .u32 words[k])) (w.heap.size + 1) 105 (Dp.memCells (.slice none 0 0) (Dp.firstWords words (k + 1)))) := HR
   have HRZ : Hid (Dp.Row (wr.setCell ⟨w.heap.size + 1, 1 + k, none⟩ (.int .u32 words[k])) w.heap.size 105 Dp.zeroMemCells) := HRk.out.setOther _ _ (show w.heap.size ≠ w.heap.size + 1 by omega)
   have HKZ : Hid (Dp.Keeps (fun _ => False) w (wr.setCell ⟨w.heap.size + 1, 1 + k, none⟩ (.int .u32 words[k]))) := kk.setCell (p := ⟨w.heap.size + 1, 1 + k, none⟩) (.inl (show w.heap.size ≤ w.heap.size + 1 by omega)) _
   generalize words[k] = x at *
   generalize (Dp.firstWords words k).getD k 0 = y at *
   clear rk rk' HR
   go_wp2
   go_roundw
   case rel => exact ⟨k + 1, by omega, by go_num, HR2.out, HRZ, HKZ.out⟩
   case measure => simp [intOf]; omega
  ·have ek : k = words.length := by omega
   rw [ek, HFW.out] at rk
   have hcl : (Dp.newMach words srcs).cells.length = 256 := by rw [← HFW.out]; exact Dp.firstWords_length words _ (Nat.le_refl _) hwl
   generalize hCS : (Dp.newMach words srcs).cells = CS at *
   have HCS := Hid.mk_ hCS
   clear hCS
   have HCL := Hid.mk_ hcl
   clear hcl ek
   go_wp2
   go_loopw [10, 35] (fun _ i wr2 => ∃ (k2 : Nat) (vs : Value) (vls : List Value), k2 ≤ srcs.length ∧ i = .int .i64 k2 ∧ Hid (Dp.Clones (w.heap.size + 2) wr2 srcs k2 vs vls) ∧ Dp.Row wr2 (w.heap.size + 1) 105 (Dp.memCells vs CS) ∧ Hid (Dp.Row wr2 w.heap.size 105 Dp.zeroMemCells) ∧ Dp.Keeps (fun _ => False) w wr2) (fun _ i _ => srcs.length - (intOf i).toNat)
   case atStart => exact ⟨0, .slice none 0 0, [], Nat.zero_le _, rfl, ⟨Dp.Own.nil _ _, fun q hq => by simp [Value.ownBlock] at hq, rfl, fun i hi => absurd hi (by simp)⟩, rk, HRk, kk⟩
   case round =>
    obtain ⟨k2, vs, vls, hk2, rfl, HCn, rs, HRz, ks⟩ := hrel
    clear rk HRk kk
    by_cases hlt2 : k2 < srcs.length
    ·obtain rfl := HSN.out (by intro e; simp [e] at hlt2)
     obtain ⟨vi, hci, hbi⟩ := HSC.out k2 hlt2
     have HBI : Hid (Dp.Bytes wr.drew vi srcs[k2]) := (hbi.still ks).still (Dp.Keeps.refl _ _).drew
     obtain ⟨vb, vo, vad, vcap, evi, hx1, hx2, hx3⟩ := hbi
     clear hx1 hx2 hx3
     have csi : wr.cell? ⟨sb, so + k2, none⟩ = some (.slice vad srcs[k2].length vcap) := by
      rw [← evi]; exact (ks.cell (p := ⟨sb, so + k2, none⟩) (Dp.cell_lt hci) (fun e => e)).trans hci
     rw [evi] at HBI
     clear hci evi
     have hlk := HSX.out _ (List.getElem_mem hlt2)
     have rs' : Dp.Row wr (w.heap.size + 1) 105 ([] ++ Dp.memCells vs CS ++ []) := Dp.row_nil rs
     have q0 : ∀ wx, Dp.Keeps (fun _ => False) wr wx → wx.cell? ⟨w.heap.size + 1, 0, none⟩ = some vs := fun wx kx => Dp.memCells_srcs (rs'.keep kx (fun e => e)) rfl
     have hS0 : Dp.Keeps (fun _ => False) wr wr.drew := (Dp.Keeps.refl _ _).drew
     obtain ⟨ad1, cap1, ev1⟩ := HCn.out.own.isSlice
     rw [HCn.out.len] at ev1
     subst ev1
     generalize hLK : srcs[k2].length = LK at *
     have HLK := Hid.mk_ hLK
     clear hLK
     go_wp2
     refine Dp.wp_region_L (fun wx => Dp.Keeps (fun _ => False) wr wx) 6 mixedP ?_
     refine' Dp.tj 0 hS0 ?_
     simp only [Act.put, Dp.tks]
     refine' Dp.tj 1 hS0 ?_
     simp only [Act.put, Dp.tks]
     refine' Dp.tj 2 hS0 ?_
     simp only [Act.put, Dp.tks]
     refine' Dp.tj 3 hS0 ?_
     simp only [Act.put, Dp.tks]
     refine Dp.wpAnyL_one 4 rfl (by kernel_rfl) (by rfl) (fun K hK => ?_)
     go_simp
     refine (progClone _ srcs[k2] wr.drew HBI.out (by rw [HLK.out]; omega)).mono ?_
     rintro e w5 ⟨⟨v5, rfl, o5, f5⟩, k5⟩
     have hS1 := hS0.trans k5
     refine hK _ _ ⟨fun _ => hS1, ?_⟩
     clear hK K
     obtain ⟨ad5, cap5, ev5⟩ := o5.isSlice
     subst ev5
     refine Dp.wpAnyL_one 5 rfl (by kernel_rfl) (by rfl) (fun K hK => ?_)
     go_simp
     have kal := (Dp.Keeps.refl (fun _ => False) w5).alloc (.cells #[.slice ad5 (Dp.vals srcs[k2]).length cap5] 78)
     have hS2 := hS1.trans kal
     refine hK _ _ ⟨fun _ => hS2, ?_⟩
     clear hK K
     refine Dp.wpAnyL_rest (by kernel_rfl) ?_
     refine Dp.wpAny_tail 6 rfl (by kernel_rfl) ?_
     simp only [List.drop_succ_cons, List.drop_zero]
     have HC2 := Hid.mk_ (HCn.out.still hS2)
     have HO2 := Hid.mk_ HC2.out.own
     have HO5 := Hid.mk_ (o5.keep kal (fun _ _ e => e))
     have rs2 := rs.keep hS2 (fun e => e)
     have hcb : ¬ (Value.slice ad1 k2 cap1).ownBlock = some (w.heap.size + 1) := fun e => HO2.out.ne rs2 (by decide) _ e rfl
     have HZ2 := Hid.mk_ (HRz.out.keep hS2 (fun e => e))
     have hrb : ¬ (Value.slice ad1 k2 cap1).ownBlock = some w.heap.size := fun e => HO2.out.ne HZ2.out (by decide) _ e rfl
     have NW : Hid (∀ j u, [Value.slice ad5 (Dp.vals srcs[k2]).length cap5][j]? = some u → (w5.alloc (.cells #[.slice ad5 (Dp.vals srcs[k2]).length cap5] 78)).cell? ((⟨w5.heap.size, 0, none⟩ : Addr).add j) = some u) := fun j u h => cell_one_new w5 _ _ j u h
     have hvl := HC2.out.len
     have HLV := Hid.mk_ hvl
     clear q0 hvl o5
     generalize hLV : (Dp.vals srcs[k2]).length = LV at *
     clear hLV
     go_wp2_with (at_builtin; refine Dp.wpList_append_Own rfl _ _ 76 rfl 78 (.slice none 0 0) 24 Tryz.underlying76 infoSource rfl (.slice ad1 k2 cap1) vls rfl HO2.out ⟨w5.heap.size, 0, none⟩ 1 1 [.slice ad5 LV cap5] rfl rfl NW.out (fun x hx => by simp at hx; subst hx; rfl) (by omega) (by rw [HLV.out]; unfold maxLen; omega) (by rw [HLV.out]; omega) ?_)
     intro v6 w6 o6 k6 s6
     have rs6 := rs2.keep k6 hcb
     have HZ6 := Hid.mk_ (HZ2.out.keep k6 hrb)
     obtain ⟨ad6, cap6, ev6⟩ := o6.isSlice
     have hl6 : (vls ++ [Value.slice ad5 LV cap5]).length = k2 + 1 := by rw [List.length_append, HLV.out]; rfl
     rw [hl6] at ev6
     subst ev6
     have c6 : w6.cell? ⟨w.heap.size + 1, 0, none⟩ = some (.slice ad1 k2 cap1) := (rs6.cell 0).trans rfl
     have f6 := rs6.frozen 0
     have h6b : ∀ q, (Value.slice ad6 (k2 + 1) cap6).ownBlock = some q → ¬ q = w.heap.size + 1 := fun q hq => o6.ne rs6 (by decide) q hq
     have kset : Dp.Keeps (fun q => q = w.heap.size + 1) w6 (w6.setCell ⟨w.heap.size + 1, 0, none⟩ (.slice ad6 (k2 + 1) cap6)) := Dp.Keeps.setCell (S := fun q => q = w.heap.size + 1) (p := ⟨w.heap.size + 1, 0, none⟩) (Dp.Keeps.refl _ _) (.inr rfl) _
     have HRS : Hid (Dp.Row (w6.setCell ⟨w.heap.size + 1, 0, none⟩ (.slice ad6 (k2 + 1) cap6)) (w.heap.size + 1) 105 (Dp.memCells (.slice ad6 (k2 + 1) cap6) CS)) := rs6.set 0 _
     have HZS : Hid (Dp.Row (w6.setCell ⟨w.heap.size + 1, 0, none⟩ (.slice ad6 (k2 + 1) cap6)) w.heap.size 105 Dp.zeroMemCells) := HZ6.out.keep kset (show ¬ w.heap.size = w.heap.size + 1 by omega)
     have HKS : Hid (Dp.Keeps (fun _ => False) w (w6.setCell ⟨w.heap.size + 1, 0, none⟩ (.slice ad6 (k2 + 1) cap6))) := ((ks.trans hS2).next k6 (fun q hq e => by have := HCn.out.new q e; omega)).next kset (fun q hq e => by omega)
     have HCS2 : Hid (Dp.Clones (w.heap.size + 2) (w6.setCell ⟨w.heap.size + 1, 0, none⟩ (.slice ad6 (k2 + 1) cap6)) srcs (k2 + 1) (.slice ad6 (k2 + 1) cap6) (vls ++ [.slice ad5 LV cap5])) := by
      refine ⟨o6.keep kset h6b, fun q hq => ?_, hl6, fun i hi hi2 => ?_⟩
      ·have hsz := hS2.size
       have hsr := rs.lt
       rcases s6.out with hh | hh
       ·rw [hh.1] at hq; exact HCn.out.new q hq
       ·rw [hh.1] at hq; simp at hq; simp at hsz; omega
      ·have hun : ∀ (u : Value) (l : List UInt8), Dp.Own (w5.alloc (.cells #[.slice ad5 LV cap5] 78)) 5 u (Dp.vals l) → Dp.Own (w6.setCell ⟨w.heap.size + 1, 0, none⟩ (.slice ad6 (k2 + 1) cap6)) 5 u (Dp.vals l) := by
        intro u l hu
        have h1 := hu.keep k6 (fun q hq e => HO2.out.apart hu (by decide) q e hq)
        exact h1.keep kset (fun q hq e => h1.ne rs6 (by decide) q hq e)
       by_cases hik : i < vls.length
       ·rw [List.getElem_append_left hik]
        obtain ⟨h1, h2⟩ := HC2.out.each i hik hi2
        exact ⟨hun _ _ h1, h2⟩
       ·have hieq : i = vls.length := by have := HLV.out; rw [hl6] at hi; omega
        subst hieq
        rw [List.getElem_append_right (Nat.le_refl _)]
        have hk2' : srcs[vls.length] = srcs[k2] := by congr 1
        simp only [Nat.sub_self, List.getElem_cons_zero]
        rw [hk2']
        refine ⟨hun _ _ HO5.out, fun q hq => ?_⟩
        have := f5 q hq
        have h2 := rs.lt
        simp at this
        omega
     clear rs rs2 rs6 rs' o6 k6 s6 kset NW h6b hcb hrb
     go_wp2
     go_roundw
     case rel => exact ⟨k2 + 1, _, _, by omega, by go_num, HCS2, HRS.out, HZS, HKS.out⟩
     case measure => simp [intOf]; omega
    ·have ek : k2 = srcs.length := by omega
     subst ek
     have HPT := Hid.mk_ (HCn.out.parts (by unfold maxLen; omega) (fun l hl => by have := HSX.out l hl; unfold maxLen; omega))
     obtain ⟨ad1, cap1, ev1⟩ := HCn.out.own.isSlice
     subst ev1
     generalize vls.length = LV at *
     have HTK := Hid.mk_ (Dp.row_nil rs)
     have HYK := Hid.mk_ (Dp.row_nil HRz.out)
     have HM : Hid ((Dp.memCells (.slice ad1 LV cap1) CS).length = 257) := by unfold Hid; rw [Dp.memCells_length, HCL.out]
     clear rs HRz
     go_wp2_with (first | (refine Dp.wpList_store_in rfl 105 _ _ rfl w.heap.size 0 rfl (Dp.memCells (.slice ad1 LV cap1) CS) rfl 105 [] _ [] HYK.out rfl (by rw [HM.out, Dp.zeroMemCells_length]) (by rw [sizeMem, HM.out]) (Dp.memCells_one _ _ rfl) ?_) | (refine Dp.wpList_load_in rfl 105 _ rfl (w.heap.size + 1) 0 rfl 105 [] _ _ HTK.out rfl _ Tryz.underlying105 rfl (by rw [sizeMem, HM.out]) ?_; intro _))
     intro w7 r7 z7 k7
     go_wp2
     have r7' : Dp.Row w7 w.heap.size 105 (Dp.memCells (.slice ad1 LV cap1) CS) := by simpa using r7
     refine bodyPost_ret (v := .tuple #[.agg (Dp.memCells (.slice ad1 LV cap1) CS).toArray, .int .i64 0]) (Dp.results_row_tmp (p := 4) (u := 5) (ty := 105) rfl _ _ w.heap.size 105 _ _ rfl r7' Tryz.underlying105 rfl (by rw [sizeMem, HM.out])) rfl ?_
     rw [HCS.out]
     refine ⟨_, rfl, rfl, ?_, ks.next k7 (fun q hq e => by omega)⟩
     have hp := HPT.out.keep k7 (fun q hq => ⟨hq.2, fun e => by omega⟩)
     exact hp.weak (fun q hq => ⟨hq.1, Nat.lt_of_lt_of_le hq.2 k7.size⟩)
namespace Dp
theorem newMach_ok (words : List Int) (srcs : List (List UInt8)) (h : newOk words srcs = true) : (newMach words srcs).Ok := by
 rw [newOk_both, Bool.and_eq_true] at h
 obtain ⟨h1, h2⟩ := h
 unfold wordsOk at h1
 unfold srcsOk at h2
 simp only [Bool.and_eq_true, decide_eq_true_eq, List.all_eq_true] at h1 h2
 refine ⟨zeroCs_ok, ?_, ?_, h2.1, h2.2⟩
 ·show (words ++ List.replicate (256 - words.length) 0).length = 256
  rw [List.length_append, List.length_replicate]; omega
 ·intro x hx
  have hx' : x ∈ words ++ List.replicate (256 - words.length) 0 := hx
  rw [List.mem_append] at hx'
  rcases hx' with hx' | hx'
  ·exact h1.2 x hx'
  ·have := List.eq_of_mem_replicate hx'
   subst this; simp [isWord]
end Dp
set_option maxRecDepth 100000 in
set_option maxHeartbeats 1000000 in
theorem progNewErr (w : World) (vW vS : Value) (words : List Int) (srcs : List (List UInt8)) (hW : Dp.Ints w vW words) (h64 : ∀ x ∈ words, -9223372036854775808 ≤ x ∧ x ≤ 9223372036854775807) (hS : Dp.Parts w vS srcs) (hl : srcs.length ≤ 1048576) (hb : ∀ l ∈ srcs, l.length ≤ 1048576) (hok : Dp.newOk words srcs = false) :
  Calls Tryz.prog 29 #[vW, vS] w fun e w' => e = .returned (.tuple #[.pointer none, .int .i64 1]) ∧ Dp.Keeps (fun _ => False) w w' := by
 go_enter Tryz.func29, Tryz.ntmps29
 go_wp2_with fail
 refine (progMemNewErr w vW vS words srcs hW h64 hS hl hb hok).mono ?_
 rintro e w1 ⟨rfl, k1⟩
 go_wp2_with (refine Dp.wpList_alloc_row rfl 105 rfl _ zeroMem ?_)
 intro w2 r2 z2 k2
 have HR2 : Hid (Dp.Row w2 w1.heap.size 105 ([] ++ Dp.zeroMemCells ++ [])) := Dp.row_nil r2
 clear r2
 go_wp2_with (refine Dp.wpList_store_in rfl 105 _ _ rfl w1.heap.size 0 rfl Dp.zeroMemCells rfl 105 [] _ [] HR2.out rfl rfl (by rw [sizeMem, Dp.zeroMemCells_length]) (Dp.memCells_one _ _ rfl) ?_)
 intro w3 r3 z3 k3
 go_wp2
 go_ret2
 exact ⟨rfl, (k1.trans k2).next k3 (fun k hk e => by have := k1.size; omega)⟩
set_option maxRecDepth 100000 in
set_option maxHeartbeats 1000000 in
theorem progNew (w : World) (vW vS : Value) (words : List Int) (srcs : List (List UInt8)) (hW : Dp.Ints w vW words) (hS : Dp.Parts w vS srcs) (hok : Dp.newOk words srcs = true) :
  Calls Tryz.prog 29 #[vW, vS] w fun e w' => (∃ b vs G, e = .returned (.tuple #[.pointer (some ⟨b, 0, none⟩), .int .i64 0]) ∧ w.heap.size ≤ b ∧ (∀ q, G q → w.heap.size ≤ q) ∧ Dp.ProgM w' b G vs (Dp.newMach words srcs)) ∧ Dp.Keeps (fun _ => False) w w' := by
 have HOK := Hid.mk_ (Dp.newMach_ok words srcs hok)
 go_enter Tryz.func29, Tryz.ntmps29
 go_wp2_with fail
 refine (progMemNew w vW vS words srcs hW hS hok).mono ?_
 rintro e w1 ⟨vs, rfl, hv1, hP, k1⟩
 have HPT := Hid.mk_ hP
 have hcl := HOK.out.len
 generalize hM : Dp.newMach words srcs = M at *
 have HMM := Hid.mk_ hM
 clear hM hP
 have hsr : M.srcs = srcs := by rw [← HMM.out]; rfl
 have hss : M.s = Dp.zeroCs := by rw [← HMM.out]; rfl
 have HSR := Hid.mk_ hsr
 have HSS := Hid.mk_ hss
 clear hsr hss
 have HL : Hid ((Dp.memCells vs M.cells).length = 257) := by unfold Hid; rw [Dp.memCells_length, hcl]
 have hbd : ∀ wx, (Instr.build 107 #[(1, .agg (Dp.memCells vs M.cells).toArray)]).run Tryz.prog wx = .ok (.agg (Dp.stateCells Dp.zeroCs ++ Dp.memCells vs M.cells).toArray) wx := by
  intro wx
  refine buildMach _ wx _ ?_
  have h := Dp.fill_part ((#[(0, 12), (12, 257)] : Array (Nat × Nat))[·]?) 1 12 (Dp.stateCells Dp.zeroCs) (Dp.memCells (.slice none 0 0) (List.replicate 256 0)) [] (Dp.memCells vs M.cells) (by rw [HL.out]; rfl) (by rw [HL.out, Dp.memCells_length, List.length_replicate]) rfl
  rw [List.append_nil, List.append_nil] at h
  exact h
 have HV1 := Hid.mk_ hv1
 obtain ⟨ZC, hZC⟩ : ∃ l : List Value, l = Dp.stateCells Dp.zeroCs ++ Dp.memCells vs M.cells := ⟨_, rfl⟩
 rw [← hZC] at hbd
 have HZC := Hid.mk_ hZC
 have HBD := Hid.mk_ hbd
 clear hbd hZC
 clear hv1 hcl
 go_wp2_with (refine Dp.wpList_alloc_row rfl 105 rfl _ zeroMem ?_)
 intro w2 r2 z2 k2
 have HR2 : Hid (Dp.Row w2 w1.heap.size 105 ([] ++ Dp.zeroMemCells ++ [])) := Dp.row_nil r2
 clear r2
 go_wp2_with (refine Dp.wpList_store_in rfl 105 _ _ rfl w1.heap.size 0 rfl (Dp.memCells vs M.cells) rfl 105 [] _ [] HR2.out rfl (by rw [HL.out, Dp.zeroMemCells_length]) (by rw [sizeMem, HL.out]) (Dp.memCells_one _ _ HV1.out) ?_)
 intro w3 r3 z3 k3
 have r3' : Dp.Row w3 w1.heap.size 105 (Dp.memCells vs M.cells) := by simpa using r3
 have HR3 := Hid.mk_ (Dp.row_nil r3')
 clear r3 r3'
 go_wp2_with (first | (refine Dp.wpList_load_in rfl 105 _ rfl w1.heap.size 0 rfl 105 [] _ _ HR3.out rfl _ Tryz.underlying105 rfl (by rw [sizeMem, HL.out]) ?_; intro _) | (refine Dp.wpList_build_one rfl 107 1 _ rfl (.agg (Dp.memCells vs M.cells).toArray) (.agg ZC.toArray) rfl (HBD.out w3) ?_; intro _) | (refine Dp.wpList_box_row rfl 107 _ rfl ZC rfl ?_))
 intro w4 r4 z4 k4
 go_wp2
 go_ret2
 rw [HMM.out]
 have k13 : Dp.Keeps (fun _ => False) w1 w3 := k2.next k3 (fun k hk e => by omega)
 have k14 := k13.trans k4
 have hk1 := k1.size
 refine ⟨⟨w1.heap.size + 1, vs, fun k => w.heap.size + 2 ≤ k ∧ k < w1.heap.size, rfl, by omega, fun q hq => by omega, ?_⟩, k1.trans k14⟩
 have r4' : Dp.Row w4 (w1.heap.size + 1) 107 ZC := by first | exact r4 | (rw [← z3]; exact r4)
 refine ⟨HOK.out, by rw [HSS.out, ← HZC.out]; exact r4', ?_, fun q hq => ⟨Nat.lt_of_lt_of_le hq.2 k14.size, fun e => by omega⟩⟩
 rw [HSR.out]; exact HPT.out.keep k14 (fun q hq => ⟨hq.2, fun e => e⟩)
end Go.Proofs.YtdipojfngdceoaaGreatDoor
