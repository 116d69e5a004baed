/- Steps on the way: ProgProofs3, ProgProofs4, ProgCutLabel. -/
import Derived.Test.YtdipojfngdceoaaGreatDoorShQ09
import Derived.Test.YtdipojfngdceoaaGreatDoorShQ13
import Derived.Test.YtdipojfngdceoaaGreatDoorShQ14
import Derived.Test.YtdipojfngdceoaaGreatDoorShQ20
import Derived.Test.YtdipojfngdceoaaGreatDoorShQ27
import Derived.Test.YtdipojfngdceoaaGreatDoorShQ30
import Derived.Test.YtdipojfngdceoaaGreatDoorShQ33
namespace Go.Proofs.YtdipojfngdceoaaGreatDoor
open Go.RowKit
namespace Dp
theorem ProofsInv.setSrc {w0 wb : World} {pc q p L : Nat} {w : World} {m : Pm} (h : ProofsInv w0 wb pc q p L w m) (v : Value) (hv : v.oneCell' = true) : ProofsInv w0 wb pc q p L (w.setCell ⟨q, 0, none⟩ v) m := by
 obtain ⟨a, vt, xs, ha, h1, ho, ht, hl, hn⟩ := h.row
 have k : Keeps (fun i => i = q) w (w.setCell ⟨q, 0, none⟩ v) := Keeps.setCell (S := fun i => i = q) (p := ⟨q, 0, none⟩) (Keeps.refl _ _) (.inr rfl) _
 refine ⟨h.parts.keep k h.pq (fun i hi e => by have := h.new; omega), h.new, h.pq, h.cp, h.cq, h.lo, h.clt, h.frame.trans (k.mono (fun _ _ e => .inr (.inl e))), h.root, ⟨v, vt, xs, hv, h1.set 0 _, ho.keep k (ho.ne h1 (by decide)), ht.keep k (fun g e hg _ => hg.ne h1 (by decide)), hl, hn⟩⟩
theorem ProofsInv.cutOff {w0 wb : World} {pc q p L : Nat} {w w' : World} {m : Pm} (h : ProofsInv w0 wb pc q p L w m) (k : Keeps (fun i => i = p) w w') (n : Nat) (hp : PartsAt w0 p w' (m.rest.drop n)) : ProofsInv w0 wb pc q p L w' { m with rest := m.rest.drop n } := by
 obtain ⟨a, vt, xs, ha, h1, ho, ht, hl, hn⟩ := h.row
 obtain ⟨v, hpr, _⟩ := h.parts.row
 refine ⟨hp, h.new, h.pq, h.cp, h.cq, h.lo, h.clt, h.frame.trans (k.mono (fun _ _ e => .inl e)), h.root, ⟨a, vt, xs, ha, h1.keep k h.pq.symm, ho.keep k (ho.ne hpr (by decide)), ht.keep k (fun g e hg _ => hg.ne hpr (by decide)), ?_, hn⟩⟩
 show m.texts.length + (m.rest.drop n).length ≤ L
 rw [List.length_drop]; omega
theorem ProofsInv.p_lt {w0 wb : World} {pc q p L : Nat} {w : World} {m : Pm} (h : ProofsInv w0 wb pc q p L w m) : p < w.heap.size := by
 obtain ⟨v, hpr, _⟩ := h.parts.row
 exact hpr.lt
end Dp
set_option maxRecDepth 100000 in
set_option maxHeartbeats 1000000 in
theorem progSource1 (w : World) (b o g : Nat) (ad : Option Addr) (cap : Nat) (src : List UInt8) (name : Int) (hc : w.cell? ⟨b, o, none⟩ = some (.slice (some ⟨g, 0, none⟩) 1 1)) (hg : w.cell? ⟨g, 0, none⟩ = some (.slice ad src.length cap)) (hB : Dp.Bytes w (.slice ad src.length cap) src) :
  Calls Tryz.prog 170 #[.pointer (some ⟨b, o, none⟩), .int .u32 name] w fun e w' => e = .returned (.tuple #[if Dp.sum src = name then .slice ad src.length cap else .slice none 0 0, .int .i64 (if Dp.sum src = name then 0 else 5)]) ∧ Dp.Keeps (fun _ => False) w w' := by
 have HBB := Hid.mk_ hB
 have hgl := Dp.cell_lt hg
 clear hB
 go_enter Tryz.func170, Tryz.ntmps170
 go_wp2
 go_loopw [7, 13] (fun _ i wr => ∃ k : Nat, k ≤ 1 ∧ i = .int .i64 k ∧ (1 ≤ k → Dp.sum src ≠ name) ∧ Dp.Keeps (fun _ => False) w wr) (fun _ i _ => 1 - (intOf i).toNat)
 case atStart => exact ⟨0, Nat.zero_le _, rfl, fun h => absurd h (by omega), Dp.Keeps.refl _ _⟩
 case round =>
  obtain ⟨k, hk, rfl, hno, kr⟩ := hrel
  have HNO := Hid.mk_ hno
  clear hno
  by_cases hlt : k < 1
  ·obtain rfl : k = 0 := by omega
   have ck : wr.cell? ⟨g, 0, none⟩ = some (.slice ad src.length cap) := (kr.cell (p := ⟨g, 0, none⟩) hgl (fun e => e)).trans hg
   have HB : Hid (∀ wx, Dp.Keeps (fun _ => False) wr wx → Dp.Bytes wx (.slice ad src.length cap) src) := fun wx kx => HBB.out.still (kr.trans kx)
   have hsb := Dp.sum_bd src
   have z0 : ((0 : Nat) : Int) = 0 := rfl
   rw [z0]
   go_wp2_with fail
   refine (digSum _ [src] _ (Dp.parts_one (HB.out _ ((Dp.Keeps.refl _ _).alloc _)))).mono ?_
   rintro e w4 ⟨rfl, rfl⟩
   rw [List.flatten_singleton]
   have KR := Hid.mk_ (kr.alloc (.cells #[.slice ad src.length cap] 47))
   by_cases hs : Dp.sum src = name
   ·rw [hs]
    clear ck HB
    go_wp2
    go_ret2
    exact ⟨by simp, KR.out⟩
   ·obtain ⟨sk, hsk⟩ : ∃ sk, sk = Dp.sum src := ⟨_, rfl⟩
    rw [← hsk] at hs hsb ⊢
    have HF : Hid (Dp.sum src ≠ name) := by unfold Hid; rw [← hsk]; exact hs
    clear ck HB hsk
    go_wp2
    go_roundw
    case rel => exact ⟨1, by omega, by go_num, fun _ => HF.out, KR.out⟩
    case measure => simp [intOf]
  ·obtain rfl : k = 1 := by omega
   have hno := HNO.out (Nat.le_refl _)
   have z0 : ((1 : Nat) : Int) = 1 := rfl
   rw [z0]
   have HNN := Hid.mk_ hno
   clear hno
   go_wp2
   go_ret2
   exact ⟨by first | rfl | (rw [if_neg HNN.out]; rfl), kr⟩
set_option maxRecDepth 100000 in
set_option maxHeartbeats 2000000 in
theorem progPSource (w0 wb : World) (pc q p : Nat) (eb : Addr) (L : Nat) (name : Int) (w : World) (m : Dp.Pm) (he : Dp.ErrAt w0 eb) (h : Dp.ProofsInv w0 wb pc q p L w m) (hpc : w0.heap.size ≤ pc) (hL : L ≤ 16777216) :
  Calls Tryz.prog 179 #[.pointer (some ⟨q, 0, none⟩), .int .u32 name] w fun e w' => Dp.after (Dp.proofsMemo.source m name) (e = .panicked (Dp.wrong eb) ∧ Dp.Keeps (fun _ => False) w0 w') fun r => (∃ v, e = .returned (.tuple #[v, .int .i64 r.2.2]) ∧ Dp.Bytes w' v r.2.1) ∧ (0 ≤ r.2.2 ∧ r.2.2 < 8) ∧ Dp.ProofsInv w0 wb pc q p L w' r.1 ∧ Dp.Keeps (Dp.ProofsF q p w) w w' := by
 have HW : Hid (Dp.proofsMemo.source m name = if Dp.srcThere m.rest name then some (⟨m.rest.drop (1 + Dp.srcSize m.rest), m.root, m.texts ++ [Dp.srcNext m.rest]⟩, Dp.srcNext m.rest, 0) else none) := rfl
 have HH := Hid.mk_ h
 obtain ⟨a, vt, xs, ha, hr, _, _, hl0, _⟩ := h.row
 have HL0 := Hid.mk_ hl0
 clear hl0
 have c1 : w.cell? ⟨q, 1, none⟩ = some (.pointer (some ⟨p, 0, none⟩)) := hr.cell 1
 have HROW := Hid.mk_ hr
 have hpl := h.p_lt
 have hql := h.q_lt
 have hpn := h.parts.new
 have hqn := h.new
 have hpq := h.pq
 clear h hr
 go_enter Tryz.func179, Tryz.ntmps179
 go_wp2_with fail
 refine (progQByte w0 p eb m.rest _ he HH.out.parts).mono ?_
 intro e w1 h1
 by_cases hle : 1 ≤ m.rest.length
 case neg =>
  rw [if_neg hle, Dp.after_none] at h1
  obtain ⟨rfl, rfl⟩ := h1
  have hf : Dp.srcThere m.rest name = false := by unfold Dp.srcThere; rw [decide_eq_false hle]; rfl
  have hw := HW.out
  rw [hf, if_neg (by simp)] at hw
  exact ⟨rfl, by rw [hw]; exact ⟨rfl, HH.out.parts.kept⟩⟩
 rw [if_pos hle, Dp.after_some] at h1
 obtain ⟨rfl, hp1, k1, z1⟩ := h1
 have HI1 := Hid.mk_ (HH.out.cutOff k1 1 hp1)
 have hr1 := HROW.out.keep k1 hpq.symm
 have c11 : w1.cell? ⟨q, 1, none⟩ = some (.pointer (some ⟨p, 0, none⟩)) := hr1.cell 1
 have HSZ : Hid ((m.rest.getD 0 0).toNat = Dp.srcSize m.rest) := rfl
 have hsz : (m.rest.getD 0 0).toNat < 256 := (m.rest.getD 0 0).toNat_lt
 rw [HSZ.out] at hsz ⊢
 generalize hN : Dp.srcSize m.rest = N at *
 by_cases h200 : N ≤ 200
 case neg =>
  have hg : decide ((N : Int) ≤ 200) = false := decide_eq_false (by omega)
  go_wp2_with fail
  with_reducible refine (progReqF _ eb _ (he.keep hp1.kept)).mono ?_
  rintro e w2 ⟨rfl, rfl⟩
  have hf : Dp.srcThere m.rest name = false := by unfold Dp.srcThere; rw [hN, decide_eq_false h200]; simp
  have hw := HW.out
  rw [hf, if_neg (by simp)] at hw
  exact ⟨rfl, by rw [hw]; exact ⟨rfl, hp1.kept⟩⟩
 have hg : (N : Int) ≤ 200 := by omega
 go_wp2_with fail
 with_reducible refine (progReqT _ _).mono ?_
 rintro e w2 ⟨rfl, hww⟩
 subst w2
 clear c1
 go_wp2_with fail
 refine (progCut w0 p eb N (m.rest.drop 1) _ he hp1 (by omega)).mono ?_
 intro e w2 h2
 have hd1 : (m.rest.drop 1).length = m.rest.length - 1 := List.length_drop
 by_cases hfit : N ≤ (m.rest.drop 1).length
 case neg =>
  rw [if_neg hfit, Dp.after_none] at h2
  obtain ⟨rfl, rfl⟩ := h2
  have hf : Dp.srcThere m.rest name = false := by unfold Dp.srcThere; rw [hN, decide_eq_false (show ¬ 1 + N ≤ m.rest.length by omega)]; simp
  have hw := HW.out
  rw [hf, if_neg (by simp)] at hw
  exact ⟨rfl, by rw [hw]; exact ⟨rfl, hp1.kept⟩⟩
 rw [if_pos hfit, Dp.after_some] at h2
 obtain ⟨v, rfl, hcut, hp2, k2, z2⟩ := h2
 have HZZ : Hid (w2.heap.size = w.heap.size) := z2.trans z1
 clear z2
 have HN : Hid (Dp.srcNext m.rest = (m.rest.drop 1).take N) := by unfold Hid Dp.srcNext; rw [hN]
 rw [← HN.out] at hcut
 have HSL : Hid ((Dp.srcNext m.rest).length ≤ 200) := by unfold Hid; rw [HN.out, List.length_take]; omega
 have HI2 : Hid (Dp.ProofsInv w0 wb pc q p L w2 { m with rest := m.rest.drop (1 + N) }) := by
  have h : Dp.ProofsInv w0 wb pc q p L w2 ⟨(m.rest.drop 1).drop N, m.root, m.texts⟩ := HI1.out.cutOff k2 N hp2
  rw [List.drop_drop] at h
  exact h
 have hr2 := hr1.keep k2 hpq.symm
 have HKW : Hid (Dp.Keeps (fun k => k = p) w w2) := k1.trans k2
 have HTH : Hid (Dp.srcThere m.rest name = (Dp.sum (Dp.srcNext m.rest) == name)) := by
  unfold Hid Dp.srcThere; rw [hN, decide_eq_true hle, decide_eq_true h200, decide_eq_true (show 1 + N ≤ m.rest.length by omega)]; rfl
 have HK02 := Hid.mk_ hp2.kept
 have HCUT := Hid.mk_ hcut
 clear hcut hp1 k1 z1 hr1 c11 hp2 k2 HI1 hd1 hfit hg HN
 generalize hSRC : Dp.srcNext m.rest = SRC at *
 obtain ⟨ad, cap, rfl, _⟩ := HCUT.out
 have hqG : q ≠ w2.heap.size := by have := HZZ.out; omega
 have hr3 := hr2.allocOld (.cells #[.slice ad SRC.length cap] 78)
 have c03 := hr3.cellAt 0 (by simp)
 have f03 := hr3.frozen 0
 simp only [List.getElem_cons_zero] at c03
 have HI4 := Hid.mk_ ((HI2.out.still hpc ((Dp.Keeps.refl _ _).alloc (.cells #[.slice ad SRC.length cap] 78))).setSrc (.slice (some ⟨w2.heap.size, 0, none⟩) 1 1) rfl)
 have HR4 := Hid.mk_ (hr3.set 0 (.slice (some ⟨w2.heap.size, 0, none⟩) 1 1))
 have HN4 : Hid (((w2.alloc (.cells #[.slice ad SRC.length cap] 78)).setCell ⟨q, 0, none⟩ (.slice (some ⟨w2.heap.size, 0, none⟩) 1 1)).cell? ⟨w2.heap.size, 0, none⟩ = some (.slice ad SRC.length cap)) := by
  exact ((Dp.Row.allocNew w2 78 [.slice ad SRC.length cap]).setOther ⟨q, 0, none⟩ _ hqG.symm).cell 0
 have HK4 : Hid (Dp.Keeps (Dp.ProofsF q p w) w ((w2.alloc (.cells #[.slice ad SRC.length cap] 78)).setCell ⟨q, 0, none⟩ (.slice (some ⟨w2.heap.size, 0, none⟩) 1 1))) :=
  ((HKW.out.mono (fun i _ e => .inr (.inl e))).alloc _).setCell (p := ⟨q, 0, none⟩) (.inr (.inl rfl)) _
 have HK04 : Hid (Dp.Keeps (fun _ => False) w0 ((w2.alloc (.cells #[.slice ad SRC.length cap] 78)).setCell ⟨q, 0, none⟩ (.slice (some ⟨w2.heap.size, 0, none⟩) 1 1))) :=
  (HK02.out.alloc _).setCell (p := ⟨q, 0, none⟩) (.inl hqn) _
 clear hr2 hr3 HI2 HKW HK02
 go_wp2_with fail
 generalize (w2.alloc (.cells #[.slice ad SRC.length cap] 78)).setCell ⟨q, 0, none⟩ (.slice (some ⟨w2.heap.size, 0, none⟩) 1 1) = w4 at *
 have c04 : w4.cell? ⟨q, 0, none⟩ = some (.slice (some ⟨w2.heap.size, 0, none⟩) 1 1) := HR4.out.cell 0
 refine (progSource1 w4 q 0 w2.heap.size ad cap SRC name c04 HN4.out (HCUT.out.still HK04.out).bytes).mono ?_
 rintro e w5 ⟨rfl, k5⟩
 have HI5 := Hid.mk_ (HI4.out.still hpc k5)
 have HK5 : Hid (Dp.Keeps (Dp.ProofsF q p w) w w5) := HK4.out.next k5 (fun i _ e => e.elim)
 have HK05 := Hid.mk_ (HK04.out.trans k5)
 have hr5 := HR4.out.keep k5 (fun e => e)
 have c15 : w5.cell? ⟨q, 1, none⟩ = some (.pointer (some ⟨p, 0, none⟩)) := hr5.cell 1
 clear HI4 HK4 HK04 HN4 HR4 c04 k5 c03 f03
 by_cases hs : Dp.sum SRC = name
 case neg =>
  rw [if_neg hs, if_neg hs]
  go_wp2_with fail
  with_reducible refine (progReqF _ eb _ (he.keep HK05.out)).mono ?_
  rintro e w6 ⟨rfl, rfl⟩
  have hf : Dp.srcThere m.rest name = false := by rw [HTH.out]; simpa using hs
  have hw := HW.out
  rw [hf, if_neg (by simp)] at hw
  exact ⟨rfl, by rw [hw]; exact ⟨rfl, HK05.out⟩⟩
 rw [if_pos hs, if_pos hs]
 go_wp2_with fail
 with_reducible refine (progReqT _ _).mono ?_
 rintro e w6 ⟨rfl, hww⟩
 subst w6
 have HW2 : Hid (Dp.proofsMemo.source m name = some (⟨m.rest.drop (1 + N), m.root, m.texts ++ [SRC]⟩, SRC, 0)) := by
  have hf : Dp.srcThere m.rest name = true := by rw [HTH.out]; simpa using hs
  have hw := HW.out
  rw [hf, if_pos rfl] at hw
  exact hw
 clear HW HTH hs
 have HII := Hid.mk_ HI5.out
 obtain ⟨a5, vt5, xs5, ha5, hrow5, ho5, ht5, hl5, hn5⟩ := HI5.out.row
 have ea : Dp.Row w5 q 184 [a5, .pointer (some ⟨p, 0, none⟩), .int .i64 m.root, vt5] := hrow5
 have evv : vt5 = vt := by
  have := ea.inj hr5
  simp only [List.set_cons_zero, List.cons.injEq, and_true, true_and] at this
  exact this.2
 subst evv
 clear hr5 hrow5
 have hvtn := hn5
 have HOX := Hid.mk_ ho5
 have HTX := Hid.mk_ ht5
 have HLX : Hid (m.texts.length + (m.rest.drop (1 + N)).length ≤ L) := hl5
 have HAP := Hid.mk_ HII.out.apart
 have HXL : Hid (xs5.length ≤ 16777216) := by
  have h1 := ht5.1
  have h2 : m.texts.length + (m.rest.drop (1 + N)).length ≤ L := hl5
  have h3 : xs5.length = m.texts.length := h1
  unfold Hid; omega
 have hpq5 := HII.out.p_lt
 clear ho5 ht5 hl5
 obtain ⟨adt, capt, evt⟩ := HOX.out.isSlice
 subst evt
 have q1 : ∀ wx, Dp.Keeps (fun _ => False) w5 wx → wx.cell? ⟨q, 3, none⟩ = some (.slice adt xs5.length capt) := fun wx kx => (ea.keep kx (fun e => e)).cell 3
 have hS0 : Dp.Keeps (fun _ => False) w5 w5.drew := (Dp.Keeps.refl _ _).drew
 have HBY : Hid (∀ wx, Dp.Keeps (fun _ => False) w5 wx → Dp.Bytes wx (.slice ad SRC.length cap) SRC) := fun wx kx => (HCUT.out.still (HK05.out.trans kx)).bytes
 go_wp2
 refine wp_region_any mixedP ?_
 refine' Dp.wpAny_pure 0 rfl (by kernel_rfl) (fun _ _ _ h => h) (.inl ⟨by rfl, ?hpc0⟩) ?pestc0
 case hpc0 => intro wx; go_simp; try with_reducible rfl
 simp only [Act.put, Dp.tks]
 refine Dp.wpAny_of_L (S := fun wx => Dp.Keeps (fun _ => False) w5 wx) (n := 8) _ _ _ _ ?_
 refine' Dp.tj 1 hS0 ?_
 simp only [Act.put, Dp.tks]
 refine' Dp.tj 2 hS0 ?_
 simp only [Act.put, Dp.tks]
 refine' Dp.tj 3 hS0 ?_
 simp only [Act.put, Dp.tks]
 refine' Dp.tj 4 hS0 ?_
 simp only [Act.put, Dp.tks]
 refine' Dp.tj 5 hS0 ?_
 simp only [Act.put, Dp.tks]
 refine Dp.wpAnyL_one 6 rfl (by kernel_rfl) (by rfl) (fun K hK => ?_)
 go_simp
 refine (progClone _ SRC _ (HBY.out _ hS0) (by have := HSL.out; omega)).mono ?_
 rintro e w7 ⟨⟨vc, rfl, oc, fc⟩, k7⟩
 have hS7 := hS0.trans k7
 refine hK _ _ ⟨fun _ => hS7, ?_⟩
 clear hK K
 obtain ⟨adc, capc, evc⟩ := oc.isSlice
 rw [Dp.vals_length] at evc
 subst evc
 have HOC := Hid.mk_ oc
 have HFC : Hid (∀ g, (Value.slice adc SRC.length capc).ownBlock = some g → w5.heap.size ≤ g) := fun g hg => by have := fc g hg; exact this
 clear oc fc
 refine Dp.wpAnyL_one 7 rfl (by kernel_rfl) (by rfl) (fun K hK => ?_)
 go_simp
 have hS8 : Dp.Keeps (fun _ => False) w5 (w7.alloc (.cells #[.slice adc SRC.length capc] 47)) := hS7.alloc _
 refine hK _ _ ⟨fun _ => hS8, ?_⟩
 clear hK K
 refine Dp.wpAnyL_rest (by kernel_rfl) ?_
 refine Dp.wpAny_tail 8 rfl (by kernel_rfl) ?_
 simp only [List.drop_succ_cons, List.drop_zero]
 have HOX8 := Hid.mk_ (HOX.out.keep hS8 (fun _ _ e => e))
 have HR8 := Hid.mk_ (ea.keep hS8 (fun e => e))
 have HOC8 : Hid (Dp.Own (w7.alloc (.cells #[.slice adc SRC.length capc] 47)) 5 (.slice adc SRC.length capc) (Dp.vals SRC)) := HOC.out.alloc _
 have HC8 : Hid (∀ j u, ([.slice adc SRC.length capc] : List Value)[j]? = some u → (w7.alloc (.cells #[.slice adc SRC.length capc] 47)).cell? ((⟨w7.heap.size, 0, none⟩ : Addr).add j) = some u) := cell_one_new _ _ _
 generalize hW8 : w7.alloc (.cells #[.slice adc SRC.length capc] 47) = w8 at *
 clear q1 hS0 hS7 HOC hW8
 go_wp2_with (at_builtin; refine Dp.wpList_append_Own rfl _ _ 27 rfl 47 (.slice none 0 0) 24 Tryz.underlying27 infoBytes rfl (.slice adt xs5.length capt) xs5 rfl HOX8.out ⟨w7.heap.size, 0, none⟩ 1 1 [.slice adc SRC.length capc] rfl rfl HC8.out (fun x hx => by simp at hx; subst hx; rfl) (by omega) (by have := HXL.out; unfold maxLen; omega) (by have := HXL.out; omega) ?_)
 intro v9 w9 o9 k9 s9
 have hvq : ∀ g, (Value.slice adt xs5.length capt).ownBlock = some g → ¬ g = q := HOX8.out.ne HR8.out (by decide)
 have hr9 := HR8.out.keep k9 (fun e => hvq q e rfl)
 have hoc9 := HOC8.out.keep k9 (fun g hg e => by
  rcases HOC8.out with ⟨e1, _⟩ | ⟨g', tail, e1, hr', _⟩
  ·rw [e1] at hg; simp [Value.ownBlock] at hg
  ·rw [e1] at hg
   have : g' = g := by simpa [Value.ownBlock] using hg
   subst this
   exact HOX8.out.ne hr' (by decide) _ e rfl)
 have hk59 : Dp.Keeps (fun k => (Value.slice adt xs5.length capt).ownBlock = some k) w5 w9 := (hS8.mono (fun _ _ e => e.elim)).trans k9
 obtain ⟨ad9, cap9, ev9⟩ := o9.isSlice
 subst ev9
 have c39 : w9.cell? ⟨q, 3, none⟩ = some (.slice adt xs5.length capt) := hr9.cell 3
 have f39 := hr9.frozen 3
 have kset : Dp.Keeps (fun k => k = q) w9 (w9.setCell ⟨q, 3, none⟩ (.slice ad9 (xs5 ++ [Value.slice adc SRC.length capc]).length cap9)) := Dp.Keeps.setCell (S := fun k => k = q) (p := ⟨q, 3, none⟩) (Dp.Keeps.refl _ _) (.inr rfl) _
 have HKF : Hid (Dp.Keeps (Dp.ProofsF q p w5) w5 (w9.setCell ⟨q, 3, none⟩ (.slice ad9 (xs5 ++ [Value.slice adc SRC.length capc]).length cap9))) :=
  (hk59.mono (fun i _ e => .inr (.inr ⟨_, _, _, _, ea, e⟩))).next kset (fun i _ e => .inl e)
 have HFIN : Hid (Dp.ProofsInv w0 wb pc q p L (w9.setCell ⟨q, 3, none⟩ (.slice ad9 (xs5 ++ [Value.slice adc SRC.length capc]).length cap9)) ⟨m.rest.drop (1 + N), m.root, m.texts ++ [SRC]⟩) := by
  have hkp := HKF.out
  have hI := HII.out
  have hln : ∀ g, (Value.slice ad9 (xs5 ++ [Value.slice adc SRC.length capc]).length cap9).ownBlock = some g → wb.heap.size ≤ g := by
   intro g hg
   have h58 := hS8.size
   have hk05 := hI.frame.size
   rcases s9.out with hh | hh
   ·rw [hh.1] at hg; exact hvtn g hg
   ·rw [hh.1] at hg
    have : w8.heap.size = g := by simpa using hg
    omega
  refine ⟨(hI.parts.keep hk59 (fun e => ?_) (fun i hi e => by have := hvtn i e; have := hI.lo; omega)).keep kset hI.pq (fun i hi e => by omega), hI.new, hI.pq, hI.cp, hI.cq, hI.lo, hI.clt, hI.onward hkp, hI.root, ⟨a5, _, _, ha5, hr9.set 3 _, o9.keep kset (o9.ne hr9 (by decide)), ?_, ?_, hln⟩⟩
  ·obtain ⟨vv, hpr, _⟩ := hI.parts.row
   exact HOX.out.ne hpr (by decide) p e rfl
  ·refine ((HTX.out.keep hk59 (fun g e hg _ hS => HOX.out.ne hg (by decide) g hS rfl)).keep kset (fun g e hg _ => hg.ne hr9 (by decide))).append (Dp.TextsAt.one (hoc9.keep kset (hoc9.ne hr9 (by decide))) (fun g hg => ?_))
   have h1 := HFC.out g hg
   have h2 := hI.frame.size
   omega
  ·have h1 := HL0.out
   show (m.texts ++ [SRC]).length + (m.rest.drop (1 + N)).length ≤ L
   rw [List.length_append, List.length_drop, List.length_singleton]
   omega
 have HKW : Hid (Dp.Keeps (Dp.ProofsF q p w) w (w9.setCell ⟨q, 3, none⟩ (.slice ad9 (xs5 ++ [Value.slice adc SRC.length capc]).length cap9))) := by
  refine HK5.out.next HKF.out (fun i hi hF => ?_)
  rcases hF with rfl | rfl | ⟨a', b', c', vt', hr', hv⟩
  ·exact .inl rfl
  ·exact .inr (.inl rfl)
  ·have := hr'.inj ea
   simp only [List.cons.injEq, and_true] at this
   obtain ⟨rfl, rfl, rfl, rfl⟩ := this
   exact .inr (.inr ⟨_, _, _, _, HROW.out, hv⟩)
 have elen : (xs5 ++ [Value.slice adc SRC.length capc]).length = xs5.length + 1 := by simp
 rw [elen] at HFIN HKW
 clear elen
 clear hk59 hoc9 o9 k9 s9 kset HKF HOX HOX8 HR8 HOC8 HC8 hS8 HBY hr9 hvq hvtn HTX HII
 go_wp2
 go_ret2
 rw [HW2.out]
 exact ⟨⟨_, rfl, (HCUT.out.still HFIN.out.parts.kept).bytes⟩, by simp, HFIN.out, HKW.out⟩
theorem callPLoad (q : Nat) (n : Value) (wx : World) : (callMethod (.iface 186 (.pointer (some ⟨q, 0, none⟩))) "Load" #[n]).run Tryz.prog wx = .ok (.enter 178 #[.pointer (some ⟨q, 0, none⟩), n]) wx := by kernel_rfl
theorem callPStore (q : Nat) (n v : Value) (wx : World) : (callMethod (.iface 186 (.pointer (some ⟨q, 0, none⟩))) "Store" #[n, v]).run Tryz.prog wx = .ok (.enter 180 #[.pointer (some ⟨q, 0, none⟩), n, v]) wx := by kernel_rfl
theorem callPSource (q : Nat) (n : Value) (wx : World) : (callMethod (.iface 186 (.pointer (some ⟨q, 0, none⟩))) "Source" #[n]).run Tryz.prog wx = .ok (.enter 179 #[.pointer (some ⟨q, 0, none⟩), n]) wx := by kernel_rfl
namespace Dp
theorem proofsOk (w0 wb : World) (pc q p : Nat) (eb : Addr) (L : Nat) (he : ErrAt w0 eb) (hpc : w0.heap.size ≤ pc) (hL : L ≤ 16777216) :
  MemOk Tryz.prog pc 186 (.pointer (some ⟨q, 0, none⟩)) proofsMemo (ProofsF q p) (ProofsInv w0 wb pc q p L) (ProofsInv w0 wb pc q p L) (fun w' => Keeps (fun _ => False) w0 w') (wrong eb) where
 keep := fun h k => h.keep hpc k
 keep' := fun h k => (h.keep hpc k).1
 le := fun h => h
 foot := fun h hi => ⟨(h.foot hi).1, (h.foot hi).2.1⟩
 word := by
  intro w m n r h hn hr
  simp only [proofsMemo] at hr
  split at hr
  ·simp only [Option.some.injEq] at hr; subst hr; simp [isWord]
  ·split at hr
   ·simp only [Option.some.injEq] at hr; subst hr
    exact numTo_bd m.rest 0 4 (Nat.le_refl _)
   ·simp at hr
 load := fun w m n hn h => ⟨178, _, callPLoad q _, progPLoad w0 wb pc q p eb L n w m he h hL hn⟩
 store := fun w m n v hn hv h => ⟨180, _, callPStore q _ _, progPStore w0 wb pc q p eb L n v w m he h hpc hL hn hv⟩
 source := fun w m n _ h => ⟨179, _, callPSource q _, progPSource w0 wb pc q p eb L n w m he h hpc hL⟩
end Dp
namespace Dp
theorem stateCells_put (s : Cs) (k : Nat) (v : Int) : (stateCells s).set (4 + k) (.int .u32 v) = stateCells { s with regs := s.regs.set k v } := by
 unfold stateCells wordCells
 rw [List.set_append_right _ _ (by simp)]
 simp [List.map_set]
theorem stateCells_at (s : Cs) (hl : s.regs.length = 8) (k : Nat) (hk : k < 8) : (stateCells s)[4 + k]? = some (.int .u32 (s.regs.getD k 0)) := by
 unfold stateCells wordCells
 rw [List.getElem?_append_right (by simp)]
 simp [hl, hk]
def labelThere (l : List UInt8) : Option Unit := if 47 ≤ l.length ∧ (l.getD 12 0).toNat ≤ 1 then some () else none
theorem labelThere_neg {l : List UInt8} (h : ¬ (47 ≤ l.length ∧ (l.getD 12 0).toNat ≤ 1)) : labelThere l = none := if_neg h
theorem labelThere_pos {l : List UInt8} (h : 47 ≤ l.length ∧ (l.getD 12 0).toNat ≤ 1) : labelThere l = some () := if_pos h
theorem unregs_zero (l : List UInt8) : unregs l 0 = [0, 0, 0, 0, 0, 0, 0, 0] := rfl
end Dp
theorem zeroPState : (Tryz.prog.info? 100).map (fun i => i.zero) = some (some (.agg (Dp.stateCells ⟨0, 0, 0, false, [0, 0, 0, 0, 0, 0, 0, 0]⟩).toArray)) := by kernel_rfl
theorem runLoadPSt {w : World} {p : Nat} {e : TypeId} {s : Dp.Cs} (h : Dp.Row w p e (Dp.stateCells s)) (hl : s.regs.length = 8) : (Instr.loadAt 100 (.pointer (some ⟨p, 0, none⟩))).run Tryz.prog w = .ok (.agg (Dp.stateCells s).toArray) w :=
 run_loadAt_mid w p 0 100 _ _ (Dp.Row.range (pre := []) (post := []) (by simpa using h)) Tryz.underlying100 rfl (by rw [sizePState, Dp.stateCells_length _ hl])
set_option maxRecDepth 100000 in
set_option maxHeartbeats 1000000 in
theorem progCutLabel (w0 : World) (p : Nat) (eb : Addr) (l : List UInt8) (w : World) (he : Dp.ErrAt w0 eb) (h : Dp.PartsAt w0 p w l) :
  Calls Tryz.prog 120 #[.pointer (some ⟨p, 0, none⟩)] w fun e w' => Dp.after (Dp.labelThere l) (e = .panicked (Dp.wrong eb) ∧ Dp.Keeps (fun _ => False) w0 w') fun _ => e = .returned (.tuple #[.agg (Dp.stateCells (Dp.unlab l)).toArray, .int .i64 (Dp.unroot l)]) ∧ Dp.PartsAt w0 p w' (l.drop 47) ∧ Dp.Keeps (fun k => k = p) w w' := by
 have hplt : p < w.heap.size := by obtain ⟨v, hr, _⟩ := h.row; exact hr.lt
 have hw0 := h.new
 go_enter Tryz.func120, Tryz.ntmps120
 go_wp2_with (refine Dp.wpList_alloc_row rfl 100 rfl _ zeroPState ?_)
 intro w1 r1 z1 k1
 have hp1 := h.keep k1 (fun e => e) (fun _ _ e => e)
 clear h
 go_wp2_with fail
 refine (progQWord w0 p eb l _ he hp1).mono ?_
 intro e w2 h2
 by_cases h4 : 4 ≤ l.length
 case neg =>
  rw [if_neg h4, Dp.after_none] at h2
  obtain ⟨rfl, hk⟩ := h2
  exact ⟨rfl, by rw [Dp.labelThere_neg (by omega)]; exact ⟨rfl, hk⟩⟩
 rw [if_pos h4, Dp.after_some] at h2
 obtain ⟨rfl, hp2, k2, z2⟩ := h2
 go_wp2_with fail
 refine (progQWord w0 p eb _ _ he hp2).mono ?_
 intro e w3 h3
 have hd4 : (l.drop 4).length = l.length - 4 := List.length_drop
 by_cases h8 : 4 ≤ (l.drop 4).length
 case neg =>
  rw [if_neg h8, Dp.after_none] at h3
  obtain ⟨rfl, hk⟩ := h3
  exact ⟨rfl, by rw [Dp.labelThere_neg (by omega)]; exact ⟨rfl, hk⟩⟩
 rw [if_pos h8, Dp.after_some] at h3
 obtain ⟨rfl, hp3, k3, z3⟩ := h3
 rw [List.drop_drop] at hp3
 go_wp2_with fail
 refine (progQWord w0 p eb _ _ he hp3).mono ?_
 intro e w4 h4'
 have hd8 : (l.drop (4 + 4)).length = l.length - 8 := List.length_drop
 by_cases h12 : 4 ≤ (l.drop (4 + 4)).length
 case neg =>
  rw [if_neg h12, Dp.after_none] at h4'
  obtain ⟨rfl, hk⟩ := h4'
  exact ⟨rfl, by rw [Dp.labelThere_neg (by omega)]; exact ⟨rfl, hk⟩⟩
 rw [if_pos h12, Dp.after_some] at h4'
 obtain ⟨rfl, hp4, k4, z4⟩ := h4'
 rw [List.drop_drop] at hp4
 rw [Dp.numTo_drop, Dp.numTo_drop]
 have kk4 : Dp.Keeps (fun k => k = p) w w4 := (((k1.mono (fun _ _ e => e.elim)).trans k2).trans k3).trans k4
 have hne : ¬ w.heap.size = p := by omega
 have rr4 := ((r1.keep k2 hne).keep k3 hne).keep k4 hne
 have HP4 : Hid (Dp.PartsAt w0 p w4 (l.drop 12)) := hp4
 have HZ4 : Hid (w4.heap.size = w.heap.size + 1) := by unfold Hid; omega
 have HB0 := Hid.mk_ (Dp.numTo_bd l 0 4 (Nat.le_refl _))
 have HB1 := Hid.mk_ (Dp.numTo_bd l 4 4 (Nat.le_refl _))
 have HB2 := Hid.mk_ (Dp.numTo_bd l 8 4 (Nat.le_refl _))
 have HU : Hid (Dp.unlab l = ⟨Dp.numTo l 0 4, Dp.numTo l (4 + 0) 4, Dp.numTo l (4 + 4 + 0) 4, ((l.getD 12 0).toNat : Int) == 1, Dp.unregs l 8⟩) := by
  unfold Hid Dp.unlab; rw [Dp.unregs_all]
 clear k1 k2 k3 k4 r1 hp1 hp2 hp3 hp4 z2 z3 z4
 generalize Dp.numTo l 0 4 = a0 at *
 generalize Dp.numTo l (4 + 0) 4 = a1 at *
 generalize Dp.numTo l (4 + 4 + 0) 4 = a2 at *
 generalize hG : w4.heap.size = G at *
 have hbuild : ∀ wx, (Instr.build 100 #[(0, .int .u32 a0), (1, .int .u32 a1), (2, .int .u32 a2)]).run Tryz.prog wx = .ok (.agg (Dp.stateCells ⟨a0, a1, a2, false, [0, 0, 0, 0, 0, 0, 0, 0]⟩).toArray) wx := fun wx => by kernel_rfl
 go_wp2_with (refine Dp.wpList_alloc_row rfl 100 rfl _ zeroPState ?_)
 intro w5 r5 z5 k5
 have HR5 : Hid (Dp.Row w5 G 100 ([] ++ Dp.stateCells ⟨0, 0, 0, false, [0, 0, 0, 0, 0, 0, 0, 0]⟩ ++ [])) := by unfold Hid; rw [List.append_nil, List.nil_append]; first | exact r5 | (rw [← hG]; exact r5)
 go_wp2_with (refine Dp.wpList_store_in rfl 100 _ _ rfl G 0 rfl (Dp.stateCells ⟨a0, a1, a2, false, [0, 0, 0, 0, 0, 0, 0, 0]⟩) rfl 100 [] _ [] HR5.out rfl rfl (by rw [sizePState]; rfl) (Dp.stateCells_one _) ?_)
 intro w6 r6 z6 k6
 have hGp : ¬ p = G := by have := HZ4.out; omega
 have hGw : ¬ w.heap.size = G := by have := HZ4.out; omega
 have rg6 : Dp.Row w6 G 100 (Dp.stateCells ⟨a0, a1, a2, false, Dp.unregs l 0⟩) := by rw [Dp.unregs_zero]; simpa using r6
 have rr6 := (rr4.keep k5 (fun e => e)).keep k6 hGw
 have hp6 := (HP4.out.keep k5 (fun e => e) (fun _ _ e => e)).keep k6 hGp (fun i hi e => by have := HZ4.out; omega)
 have kk6 : Dp.Keeps (fun k => k = p) w w6 := (kk4.trans (k5.mono (fun _ _ e => e.elim))).next k6 (fun i hi e => by have := HZ4.out; omega)
 clear rr4 kk4 HP4 r5 k5 r6 k6 HR5 hbuild
 go_wp2_with fail
 refine (progQByte w0 p eb _ _ he hp6).mono ?_
 intro e w7 h7
 have hd12 : (l.drop 12).length = l.length - 12 := List.length_drop
 by_cases h13 : 1 ≤ (l.drop 12).length
 case neg =>
  rw [if_neg h13, Dp.after_none] at h7
  obtain ⟨rfl, rfl⟩ := h7
  exact ⟨rfl, by rw [Dp.labelThere_neg (by omega)]; exact ⟨rfl, hp6.kept⟩⟩
 rw [if_pos h13, Dp.after_some] at h7
 obtain ⟨rfl, hp7, k7, z7⟩ := h7
 rw [List.drop_drop] at hp7
 have e12 : (l.drop 12).getD 0 0 = l.getD 12 0 := by simp [List.getD_eq_getElem?_getD]
 rw [e12]
 have rg7 := rg6.keep k7 (fun e => hGp e.symm)
 have rr7 := rr6.keep k7 hne
 have kk7 := kk6.trans k7
 clear rg6 rr6 kk6 hp6 k7 z7 e12
 generalize hB : (l.getD 12 0) = B at *
 have hb8 : B.toNat < 256 := B.toNat_lt
 by_cases hb1 : B.toNat ≤ 1
 case neg =>
  have hg : decide ((B.toNat : Int) ≤ 1) = false := decide_eq_false (by omega)
  go_wp2_with fail
  with_reducible refine (progReqF _ eb _ (he.keep hp7.kept)).mono ?_
  rintro e w8 ⟨rfl, rfl⟩
  exact ⟨rfl, by rw [Dp.labelThere_neg (fun h => hb1 (by rw [← hB]; exact h.2))]; exact ⟨rfl, hp7.kept⟩⟩
 have hg : decide ((B.toNat : Int) ≤ 1) = true := decide_eq_true (by omega)
 go_wp2_with fail
 with_reducible refine (progReqT _ _).mono ?_
 rintro e w8 ⟨rfl, hww⟩
 subst w8
 have c3 : w7.cell? ⟨G, 3, none⟩ = some (.bool false) := rg7.cell 3
 have f3 := rg7.frozen 3
 have HR8 : Hid (Dp.Row (w7.setCell ⟨G, 3, none⟩ (.bool ((B.toNat : Int) == 1))) G 100 (Dp.stateCells ⟨a0, a1, a2, (B.toNat : Int) == 1, Dp.unregs l 0⟩)) := rg7.set 3 _
 have kset : Dp.Keeps (fun k => k = G) w7 (w7.setCell ⟨G, 3, none⟩ (.bool ((B.toNat : Int) == 1))) := Dp.Keeps.setCell (S := fun k => k = G) (p := ⟨G, 3, none⟩) (Dp.Keeps.refl _ _) (.inr rfl) _
 have HZ8 := Hid.mk_ (rr7.keep kset hGw)
 have HP8 := Hid.mk_ (hp7.keep kset hGp (fun i hi e => by have := HZ4.out; omega))
 have HK8 : Hid (Dp.Keeps (fun k => k = p) w (w7.setCell ⟨G, 3, none⟩ (.bool ((B.toNat : Int) == 1)))) := kk7.next kset (fun i hi e => by have := HZ4.out; omega)
 clear rg7 rr7 hp7 kk7 kset hg
 go_wp2
 generalize hW8 : w7.setCell ⟨G, 3, none⟩ (.bool ((B.toNat : Int) == 1)) = w8 at *
 clear hW8 c3 f3
 go_loopw [6, 23] (fun _ i wr => ∃ k : Nat, k ≤ 8 ∧ i = .int .i64 k ∧ 13 + 4 * k ≤ l.length ∧ Dp.PartsAt w0 p wr (l.drop (13 + 4 * k)) ∧ Dp.Row wr G 100 (Dp.stateCells ⟨a0, a1, a2, (B.toNat : Int) == 1, Dp.unregs l k⟩) ∧ Dp.Row wr w.heap.size 100 (Dp.stateCells ⟨0, 0, 0, false, [0, 0, 0, 0, 0, 0, 0, 0]⟩) ∧ Dp.Keeps (fun k => k = p) w wr) (fun _ i _ => 8 - (intOf i).toNat)
 case atStart => exact ⟨0, Nat.zero_le _, rfl, by omega, HP8.out, HR8.out, HZ8.out, HK8.out⟩
 case round =>
  obtain ⟨k, hk, rfl, hlk, hpk, rk, rzk, kkk⟩ := hrel
  clear HP8 HR8 HZ8 HK8
  by_cases hlt : k < 8
  ·go_wp2_with fail
   refine (progQWord w0 p eb _ _ he hpk).mono ?_
   intro e w9 h9
   have hdl : (l.drop (13 + 4 * k)).length = l.length - (13 + 4 * k) := List.length_drop
   by_cases h6 : 4 ≤ (l.drop (13 + 4 * k)).length
   case neg =>
    rw [if_neg h6, Dp.after_none] at h9
    obtain ⟨rfl, hk9⟩ := h9
    exact ⟨rfl, by rw [Dp.labelThere_neg (by omega)]; exact ⟨rfl, hk9⟩⟩
   rw [if_pos h6, Dp.after_some] at h9
   obtain ⟨rfl, hp9, k9, z9⟩ := h9
   rw [List.drop_drop] at hp9
   have HN : Hid (Dp.numTo (l.drop (13 + 4 * k)) 0 4 = Dp.unreg l k) := Dp.numTo_drop _ _ _ _
   have HPU : Hid ((Dp.unregs l k).set k (Dp.unreg l k) = Dp.unregs l (k + 1)) := Dp.unregs_put l k hlt
   have HLN : Hid ((Dp.unregs l k).length = 8) := Dp.unregs_length l k hk
   have r9 := rk.keep k9 (fun e => hGp e.symm)
   have rz9 := rzk.keep k9 hne
   have kk9 := kkk.trans k9
   have c9 : w9.cell? ⟨G, 4 + k, none⟩ = some (.int .u32 ((Dp.unregs l k).getD k 0)) := by
    rw [r9.cell]; exact Dp.stateCells_at _ HLN.out k hlt
   have f9 := r9.frozen (4 + k)
   rw [HN.out]
   have HR : Hid (Dp.Row (w9.setCell ⟨G, 4 + k, none⟩ (.int .u32 (Dp.unreg l k))) G 100 (Dp.stateCells ⟨a0, a1, a2, (B.toNat : Int) == 1, Dp.unregs l (k + 1)⟩)) := by
    have h := r9.set (4 + k) (.int .u32 (Dp.unreg l k))
    rw [Dp.stateCells_put] at h
    simp only [HPU.out] at h
    exact h
   have kset : Dp.Keeps (fun k => k = G) w9 (w9.setCell ⟨G, 4 + k, none⟩ (.int .u32 (Dp.unreg l k))) := Dp.Keeps.setCell (S := fun k => k = G) (p := ⟨G, 4 + k, none⟩) (Dp.Keeps.refl _ _) (.inr rfl) _
   have HZ := Hid.mk_ (rz9.keep kset hGw)
   have HP : Hid (Dp.PartsAt w0 p (w9.setCell ⟨G, 4 + k, none⟩ (.int .u32 (Dp.unreg l k))) (l.drop (13 + 4 * (k + 1)))) := by
    have h := hp9.keep kset hGp (fun i hi e => by have := HZ4.out; omega)
    exact h
   have HK : Hid (Dp.Keeps (fun k => k = p) w (w9.setCell ⟨G, 4 + k, none⟩ (.int .u32 (Dp.unreg l k)))) := kk9.next kset (fun i hi e => by have := HZ4.out; omega)
   generalize Dp.unreg l k = O at *
   generalize (Dp.unregs l k).getD k 0 = O0 at *
   clear rk rzk r9 rz9 hp9 hpk k9 kkk kset kk9 z9 HPU
   go_wp2
   go_roundw
   case rel => exact ⟨k + 1, by omega, by go_num, by omega, HP.out, HR.out, HZ.out, HK.out⟩
   case measure => simp [intOf]; omega
  ·obtain rfl : k = 8 := by omega
   rw [show ((8 : Nat) : Int) = 8 from rfl]
   have HM : Hid ((Dp.stateCells ⟨a0, a1, a2, (B.toNat : Int) == 1, Dp.unregs l 8⟩).length = 12) := Dp.stateCells_length _ (Dp.unregs_length l 8 (Nat.le_refl _))
   have HLN : Hid ((Dp.unregs l 8).length = 8) := Dp.unregs_length l 8 (Nat.le_refl _)
   have HNR : Hid (Dp.numTo (l.drop (13 + 4 * 8)) 0 2 = Dp.unroot l) := Dp.numTo_drop _ _ _ _
   rw [← HU.out] at rk HM
   have HRK := Hid.mk_ rk
   have HUL : Hid ((Dp.unlab l).regs.length = 8) := by unfold Hid; rw [HU.out]; exact HLN.out
   have hld : ∀ wx, Dp.Keeps (fun k => k = p) wr wx → (Instr.loadAt 100 (.pointer (some ⟨G, 0, none⟩))).run Tryz.prog wx = .ok (.agg (Dp.stateCells (Dp.unlab l)).toArray) wx := fun wx kx => runLoadPSt (HRK.out.keep kx (fun e => hGp e.symm)) HUL.out
   have hS0 : Dp.Keeps (fun k => k = p) wr wr.drew := (Dp.Keeps.refl _ _).drew
   have HPD : Hid (Dp.PartsAt w0 p wr.drew (l.drop (13 + 4 * 8))) := hpk.keep (S := fun _ => False) ((Dp.Keeps.refl _ _).drew) (fun e => e) (fun _ _ e => e)
   clear HU
   generalize hUU : Dp.unlab l = U at *
   go_wp2
   refine Dp.wp_region_L (fun wx => Dp.Keeps (fun k => k = p) wr wx) 3 mixedP ?_
   refine' Dp.tk (v := .agg (Dp.stateCells U).toArray) 0 ?hya0 hS0 ?resta0
   case hya0 => intro wx hSx; exact Dp.run_load_op rfl rfl (hld wx hSx)
   simp only [Act.put, Dp.tks]
   refine' Dp.tj 1 hS0 ?_
   simp only [Act.put, Dp.tks]
   refine Dp.wpAnyL_one 2 rfl (by kernel_rfl) (by rfl) (fun K hK => ?_)
   go_simp
   refine (progQTwo w0 p eb _ _ he HPD.out).mono ?_
   intro e wA hA
   have hdl : (l.drop (13 + 4 * 8)).length = l.length - 45 := List.length_drop
   by_cases h6 : 2 ≤ (l.drop (13 + 4 * 8)).length
   case neg =>
    rw [if_neg h6, Dp.after_none] at hA
    obtain ⟨rfl, rfl⟩ := hA
    exact ⟨rfl, by rw [Dp.labelThere_neg (by omega)]; exact ⟨rfl, HPD.out.kept⟩⟩
   rw [if_pos h6, Dp.after_some] at hA
   obtain ⟨rfl, hpA, kA, zA⟩ := hA
   rw [List.drop_drop] at hpA
   rw [HNR.out]
   have hSA := hS0.trans kA
   refine hK _ _ ⟨fun _ => hSA, ?_⟩
   clear hK K
   refine Dp.wpAnyL_rest (by kernel_rfl) ?_
   refine Dp.wpAny_tail 3 rfl (by kernel_rfl) ?_
   simp only [List.drop_succ_cons, List.drop_zero]
   have HRZ : Hid (Dp.Row wA w.heap.size 100 ([] ++ Dp.stateCells ⟨0, 0, 0, false, [0, 0, 0, 0, 0, 0, 0, 0]⟩ ++ [])) := by
    unfold Hid; rw [List.append_nil, List.nil_append]; exact rzk.keep hSA hne
   have HPA : Hid (Dp.PartsAt w0 p wA (l.drop 47)) := hpA
   have HKA : Hid (Dp.Keeps (fun k => k = p) w wA) := kkk.trans hSA
   clear hld hS0 hpA kA zA hSA rzk kkk hpk HPD rk HRK
   go_wp2_with (refine Dp.wpList_store_in rfl 100 _ _ rfl w.heap.size 0 rfl (Dp.stateCells U) rfl 100 [] _ [] HRZ.out rfl (HM.out.trans rfl) (by rw [sizePState, HM.out]) (Dp.stateCells_one _) ?_)
   intro wB rB zB kB
   have rB' : Dp.Row wB w.heap.size 100 (Dp.stateCells U) := by simpa using rB
   go_wp2
   refine bodyPost_ret (v := .tuple #[.agg (Dp.stateCells U).toArray, .int .i64 (Dp.unroot l)]) (Dp.results_row_tmp (p := 2) (u := 3) (ty := 100) rfl _ _ w.heap.size 100 _ _ rfl rB' Tryz.underlying100 rfl (by rw [sizePState, HM.out])) rfl ?_
   rw [Dp.labelThere_pos ⟨by omega, by rw [hB]; exact hb1⟩, Dp.after_some]
   exact ⟨by first | rfl | rw [hUU], HPA.out.keep kB (show ¬ p = w.heap.size by omega) (fun i hi e => by omega), HKA.out.next kB (fun i hi e => by omega)⟩
end Go.Proofs.YtdipojfngdceoaaGreatDoor
