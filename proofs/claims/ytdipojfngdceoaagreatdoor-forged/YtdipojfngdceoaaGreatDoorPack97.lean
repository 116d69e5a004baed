/- Steps on the way: KeepOver, PureCollide, PureSmall. -/
import Derived.Test.YtdipojfngdceoaaGreatDoorPack78
import Derived.Test.YtdipojfngdceoaaGreatDoorPack83
import Derived.Test.YtdipojfngdceoaaGreatDoorPack96
/- Texts written over by their owner, and behind them; and looked at again. -/
namespace Go.Proofs.YtdipojfngdceoaaGreatDoor
open Go.RowKit

namespace Dp
/-- The slice value v lies at the head of a row of bytes, and all that it holds is this mark. -/
def MarkS (w : World) (v : Value) (M : Int) (n : Nat) : Prop :=
  (v = .slice none 0 0 ∧ n = 0) ∨ ∃ g cap C, v = .slice (some ⟨g, 0, none⟩) n cap ∧ n ≤ maxLen ∧ w.heap[g]? = some (.cells C 5 (0, 0)) ∧ ∀ j, j < n → C[j]? = some (.int .u8 M)
theorem MarkS.keep {S : Nat → Prop} {w w' : World} {v : Value} {M : Int} {n : Nat} (h : MarkS w v M n) (k : Keeps S w w') (hs : ∀ g C, v.ownBlock = some g → w.heap[g]? = some (.cells C 5 (0, 0)) → ¬ S g) : MarkS w' v M n := by
  rcases h with h | ⟨g, cap, C, hv, hn, hb, hc⟩
  · exact .inl h
  · exact .inr ⟨g, cap, C, hv, hn, (k.block g (Array.getElem?_eq_some_iff.1 hb).1 (hs g C (by rw [hv]; rfl) hb)).trans hb, hc⟩
def marks (M : Int) (n : Nat) : List Value := List.replicate n (.int .u8 M)
theorem own_marks {w : World} {v : Value} {M : Int} {n : Nat} (h : Own w 5 v (marks M n)) : MarkS w v M n := by
  have hl : (marks M n).length = n := by simp [marks]
  rcases h with ⟨hv, h⟩ | ⟨g, tail, hv, hr, hm⟩
  · rw [h] at hl; exact .inl ⟨hv, by simpa using hl.symm⟩
  · rw [hl] at hv hm
    refine .inr ⟨g, _, _, hv, by omega, hr, fun j hj => ?_⟩
    rw [List.getElem?_toArray, List.getElem?_append_left (by omega)]
    simp [marks, hj]
/-- A slice of the same block, shorter. -/
theorem MarkS.short {w w' : World} {v u : Value} {M : Int} {n k : Nat} (h : MarkS w v M n) (hu : MarkS w' u M k) (hnk : n ≤ k) (hb : v.ownBlock = u.ownBlock) : MarkS w' v M n := by
  rcases h with h | ⟨g, cap, C, hv, hn, _, _⟩
  · exact .inl h
  · rcases hu with ⟨hu, _⟩ | ⟨g', cap', C', hu, _, hb', hc'⟩
    · rw [hv, hu] at hb; simp [Value.ownBlock] at hb
    · rw [hv, hu] at hb
      simp [Value.ownBlock] at hb
      subst hb
      exact .inr ⟨g, cap, C', hv, hn, hb', fun j hj => hc' j (by omega)⟩
theorem own_bytes_type {w : World} {v : Value} {xs : List Value} (h : Own w 47 v xs) : ∀ g C, w.heap[g]? = some (.cells C 5 (0, 0)) → ¬ v.ownBlock = some g := by
  intro g C hg hv
  rcases h with ⟨rfl, _⟩ | ⟨g1, t1, rfl, r1, _⟩
  · simp [Value.ownBlock] at hv
  · simp [Value.ownBlock] at hv
    subst hv
    unfold Row at r1
    rw [hg] at r1
    simp at r1
/-- What over gives: the lists, each marked, in blocks of the text's or in new ones. -/
structure Overed (B : Nat) (o : Option Nat) (w : World) (M : Int) (vo : Value) (vls : List Value) (n : Nat) : Prop where
  own : Own w 47 vo vls
  new : ∀ g, vo.ownBlock = some g → B ≤ g
  each : ∀ u ∈ vls, ∃ k, k ≤ n ∧ MarkS w u M k ∧ ∀ g, u.ownBlock = some g → B ≤ g ∨ o = some g
  lenx : vls.length ≤ n
theorem Overed.keep {B : Nat} {o : Option Nat} {S : Nat → Prop} {w w' : World} {M : Int} {vo : Value} {vls : List Value} {n : Nat} (h : Overed B o w M vo vls n) (k : Keeps S w w') (h1 : ∀ g, vo.ownBlock = some g → ¬ S g) (h2 : ∀ u ∈ vls, ∀ g C, u.ownBlock = some g → w.heap[g]? = some (.cells C 5 (0, 0)) → ¬ S g) : Overed B o w' M vo vls n :=
  ⟨h.own.keep k h1, h.new, fun u hu => by obtain ⟨q, hq, hm, hg⟩ := h.each u hu; exact ⟨q, hq, hm.keep k (h2 u hu), hg⟩, h.lenx⟩
/-- One round: the list is put behind, the text grows by one mark. -/
theorem Overed.step {B : Nat} {o : Option Nat} {w w1 w2 w3 w4 : World} {M : Int} {vo vo' vl vl' : Value} {vls : List Value} {n : Nat} (h : Overed B o w M vo vls n) (hl : Own w 5 vl (marks M n)) (hbl : ∀ g, vl.ownBlock = some g → B ≤ g ∨ o = some g)
    (k1 : Keeps (fun _ => False) w w1) (o2 : Own w2 47 vo' (vls ++ [vl])) (k2 : Keeps (fun k => vo.ownBlock = some k) w1 w2) (hn2 : vo'.ownBlock = vo.ownBlock ∨ ∀ g, vo'.ownBlock = some g → B ≤ g) (k3 : Keeps (fun _ => False) w2 w3)
    (o4 : Own w4 5 vl' (marks M (n + 1))) (k4 : Keeps (fun k => vl.ownBlock = some k) w3 w4) (h4 : vl'.ownBlock = vl.ownBlock ∨ Keeps (fun _ => False) w3 w4) : Overed B o w4 M vo' (vls ++ [vl]) (n + 1) := by
  have vo1 := h.own.keep k1 (fun _ _ e => e)
  have l2 : Own w2 5 vl (marks M n) := (hl.keep k1 (fun _ _ e => e)).keep k2 (fun g hg e => by
    have := (hl.keep k1 (fun _ _ e => e))
    rcases this with ⟨hv, _⟩ | ⟨g', t, hv, hr, _⟩
    · rw [hv] at hg; simp [Value.ownBlock] at hg
    · rw [hv] at hg; simp [Value.ownBlock] at hg; subst hg
      exact own_bytes_type vo1 _ _ hr e)
  have each2 : ∀ u ∈ vls, ∃ k, k ≤ n ∧ MarkS w2 u M k ∧ ∀ g, u.ownBlock = some g → B ≤ g ∨ o = some g := fun u hu => by
    obtain ⟨k, hk, hm, hg⟩ := h.each u hu
    exact ⟨k, hk, (hm.keep k1 (fun _ _ _ _ e => e)).keep k2 (fun g C _ hb e => own_bytes_type vo1 g C hb e), hg⟩
  have each2' : ∀ u ∈ vls ++ [vl], ∃ k, k ≤ n ∧ MarkS w2 u M k ∧ ∀ g, u.ownBlock = some g → B ≤ g ∨ o = some g := fun u hu => by
    rcases List.mem_append.1 hu with hu | hu
    · exact each2 u hu
    · obtain rfl : u = vl := by simpa using hu
      exact ⟨n, Nat.le_refl _, own_marks l2, hbl⟩
  have l3 := l2.keep k3 (fun _ _ e => e)
  have o3 := o2.keep k3 (fun _ _ e => e)
  refine ⟨o3.keep k4 (fun g hg e => ?_), fun g hg => ?_, fun u hu => ?_, by rw [List.length_append]; have := h.lenx; simp; omega⟩
  · rcases l3 with ⟨hv, _⟩ | ⟨g', t, hv, hr, _⟩
    · rw [hv] at e; simp [Value.ownBlock] at e
    · rw [hv] at e; simp [Value.ownBlock] at e; subst e
      exact own_bytes_type o3 _ _ hr hg
  · rcases hn2 with e | e
    · rw [e] at hg; exact h.new g hg
    · exact e g hg
  · obtain ⟨k, hk, hm, hg⟩ := each2' u hu
    have hm3 := hm.keep k3 (fun _ _ _ _ e => e)
    refine ⟨k, by omega, ?_, hg⟩
    rcases h4 with e4 | e4
    · by_cases hb : u.ownBlock = vl.ownBlock
      · exact hm3.short (own_marks o4) (by omega) (by rw [hb, e4])
      · refine hm3.keep k4 (fun g C hg _ e => hb (by rw [hg, e]))
    · exact hm3.keep e4 (fun _ _ _ _ e => e)
theorem marks_snoc (M : Int) (n : Nat) : marks M n ++ [.int .u8 M] = marks M (n + 1) := by
  unfold marks; rw [← List.replicate_succ']
theorem cell_one2 (w : World) (e : TypeId) (v : Value) (j : Nat) (u : Value) (h : [v][j]? = some u) : (w.alloc (.cells #[v] e)).cell? ((⟨w.heap.size, 0, none⟩ : Addr).add j) = some u := by
  rw [add_zero_off]
  exact ((Row.allocNew w e [v]).cell j).trans h
theorem marks_set (A : List Value) (M : Int) (i : Nat) (h : i < A.length) : (marks M i ++ A.drop i).set i (.int .u8 M) = marks M (i + 1) ++ A.drop (i + 1) := fill_step A i (.int .u8 M) h
end Dp
theorem infoBytes2 : (Tryz.prog.info? 47).map (fun i => (i.zero, i.size, i.bytes)) = some (some (.slice none 0 0), 1, 24) := by kernel_rfl

set_option maxRecDepth 100000 in
set_option maxHeartbeats 2000000 in
theorem keepOver (w : World) (v : Value) (A : List UInt8) (M : Int) (hv : Dp.Own w 5 v (Dp.vals A)) (hA : A.length ≤ 16777216) :
    Calls Tryz.prog 45 #[v, .int .u8 M] w fun e w' => ∃ vo vls, e = .returned vo ∧ Dp.Overed w.heap.size v.ownBlock w' M vo vls (A.length + 4) ∧ Dp.Keeps (fun k => v.ownBlock = some k) w w' := by
  obtain ⟨va, vc, ev⟩ := hv.isSlice
  have hvl := Dp.vals_length A
  rw [hvl] at ev
  obtain ⟨o, ho⟩ : ∃ o, o = v.ownBlock := ⟨_, rfl⟩
  have HO := Hid.mk_ ho
  have HV := Hid.mk_ hv
  have HVL := Hid.mk_ hvl
  have HLT : Hid (∀ g, o = some g → g < w.heap.size) := fun g hg => hv.lt g (by rw [← ho]; exact hg)
  rw [← ho]
  clear ho hv hvl
  subst ev
  go_enter Tryz.func45, Tryz.ntmps45
  go_wp2
  go_loopw [6] (fun i wr => ∃ k : Nat, k ≤ A.length ∧ i = .int .i64 k ∧ Hid (Dp.Own wr 5 (.slice va A.length vc) (Dp.marks M k ++ (Dp.vals A).drop k)) ∧ Hid (Dp.Keeps (fun k => o = some k) w wr)) (fun i _ => A.length - (intOf i).toNat)
  case atStart => exact ⟨0, Nat.zero_le _, rfl, by simpa [Dp.marks, Hid] using HV.out, Dp.Keeps.refl _ _⟩
  case round =>
    obtain ⟨k, hk, rfl, HOk, HKk⟩ := hrel
    by_cases hlt : k < A.length
    · have hlen : (Dp.marks M k ++ (Dp.vals A).drop k).length = A.length := by rw [List.length_append, List.length_drop, HVL.out]; simp [Dp.marks]; omega
      have hown := HOk.out
      rcases hown with ⟨hv, h⟩ | ⟨g, tail, hv, hr, hm⟩
      · rw [h] at hlen; simp at hlen; omega
      · rw [hlen] at hv hm
        simp only [Value.slice.injEq, true_and] at hv
        obtain ⟨rfl, rfl⟩ := hv
        have hog : o = some g := HO.out
        have hlen2 : (Dp.vals A).length = A.length := HVL.out
        obtain ⟨u, cu⟩ : ∃ u, wr.cell? ⟨g, k, none⟩ = some u := ⟨_, hr.cellAt k (by rw [List.length_append, hlen]; omega)⟩
        have fu := hr.frozen k
        have HN : Hid (Dp.Own (wr.setCell ⟨g, k, none⟩ (.int .u8 M)) 5 (.slice (some ⟨g, 0, none⟩) A.length (A.length + tail.length)) (Dp.marks M (k + 1) ++ (Dp.vals A).drop (k + 1))) := by
          have h := hr.set k (.int .u8 M)
          rw [List.set_append_left _ _ (by omega), Dp.marks_set _ _ _ (by omega)] at h
          have hl2 : (Dp.marks M (k + 1) ++ (Dp.vals A).drop (k + 1)).length = A.length := by rw [List.length_append, List.length_drop, hlen2]; simp [Dp.marks]; omega
          exact .inr ⟨g, tail, by rw [hl2], h, by rw [hl2]; omega⟩
        have HKN : Hid (Dp.Keeps (fun k => o = some k) w (wr.setCell ⟨g, k, none⟩ (.int .u8 M))) := HKk.out.setCell (p := ⟨g, k, none⟩) (.inr hog) _
        clear hr hog hlen hlen2 hm HOk HKk
        go_wp2
        go_roundw
        case rel => exact ⟨k + 1, by omega, by go_num, HN, HKN⟩
        case measure => simp [intOf]; omega
    · obtain rfl : k = A.length := by omega
      have HM0 : Hid (Dp.Own wr 5 (.slice va A.length vc) (Dp.marks M (A.length + 0))) := by
        have h := HOk.out
        rw [List.drop_of_length_le (by rw [HVL.out]; exact Nat.le_refl _), List.append_nil] at h
        exact h
      have hwr := HKk.out.size
      clear HOk HV
      go_wp2
      go_loopw [0, 5, 7] (fun vl vo i wr2 => ∃ (k : Nat) (vls : List Value), k ≤ 4 ∧ i = .int .i64 k ∧ Hid (Dp.Own wr2 5 vl (Dp.marks M (A.length + k))) ∧ Hid (∀ g, vl.ownBlock = some g → w.heap.size ≤ g ∨ o = some g) ∧ Hid (Dp.Overed w.heap.size o wr2 M vo vls (A.length + k)) ∧ vls.length = k ∧ Hid (Dp.Keeps (fun k => o = some k) w wr2) ∧ w.heap.size ≤ wr2.heap.size) (fun _ _ i _ => 4 - (intOf i).toNat)
      case atStart => exact ⟨0, [], Nat.zero_le _, rfl, HM0, fun g hg => .inr (by rw [HO.out]; exact hg), ⟨Dp.Own.nil _ _, fun g hg => by simp [Value.ownBlock] at hg, fun u hu => by simp at hu, Nat.zero_le _⟩, rfl, HKk, hwr⟩
      case round =>
        obtain ⟨k, vls, hk, rfl, HOl, HBl, HOv, hvl, HKr, hsz⟩ := hrel
        by_cases h4 : k < 4
        · obtain ⟨n, hn⟩ : ∃ n, n = A.length + k := ⟨_, rfl⟩
          rw [← hn] at HOl HOv
          have hnb : n ≤ 16777220 := by omega
          have HN := Hid.mk_ hn
          clear hn
          obtain ⟨a0, c0, e0⟩ := HOl.out.isSlice
          rw [show (Dp.marks M n).length = n by simp [Dp.marks]] at e0
          subst e0
          have k1 := (Dp.Keeps.refl (fun _ => False) wr).alloc (.cells #[.slice a0 n c0] 47)
          have NW1 : Hid (∀ j u, [Value.slice a0 n c0][j]? = some u → (wr.alloc (.cells #[.slice a0 n c0] 47)).cell? ((⟨wr.heap.size, 0, none⟩ : Addr).add j) = some u) := fun j u h => Dp.cell_one2 wr _ _ j u h
          have HO1 := Hid.mk_ (HOv.out.own.keep k1 (fun _ _ e => e))
          have HU1 : Hid (∀ u ∈ [Value.slice a0 n c0], u.oneCell' = true) := by
            intro u hu
            rw [show u = Value.slice a0 n c0 by simpa using hu]; rfl
          have HK1 := Hid.mk_ k1
          clear k1
          go_wp2_with (at_builtin; refine Dp.wpList_append_Own rfl _ _ 27 rfl 47 (.slice none 0 0) 24 Tryz.underlying27 infoBytes2 rfl u5 vls rfl HO1.out ⟨wr.heap.size, 0, none⟩ 1 1 [Value.slice a0 n c0] rfl rfl NW1.out HU1.out (by omega) (by rw [hvl]; unfold maxLen; omega) (by rw [hvl]; omega) ?_)
          intro vo2 w2 o2 k2 s2
          have HO2 := Hid.mk_ o2
          have HK2 := Hid.mk_ k2
          have HS2 : Hid (vo2.ownBlock = u5.ownBlock ∨ ∀ g, vo2.ownBlock = some g → w.heap.size ≤ g) := by
            rcases s2.out with hh | hh
            · exact .inl hh.1
            · refine .inr fun g hg => ?_
              rw [hh.1] at hg
              simp at hg
              omega
          have hs2 : w.heap.size ≤ w2.heap.size := by have := k2.size; simp at this; omega
          clear o2 k2 s2 NW1 HU1
          have k3 := (Dp.Keeps.refl (fun _ => False) w2).alloc (.cells #[.int .u8 M] 5)
          have NW2 : Hid (∀ j u, [Value.int .u8 M][j]? = some u → (w2.alloc (.cells #[.int .u8 M] 5)).cell? ((⟨w2.heap.size, 0, none⟩ : Addr).add j) = some u) := fun j u h => Dp.cell_one2 w2 _ _ j u h
          have HL2 : Hid (Dp.Own (w2.alloc (.cells #[.int .u8 M] 5)) 5 (.slice a0 n c0) (Dp.marks M n)) := by
            have h1 := HOl.out.keep HK1.out (fun _ _ e => e)
            have h2 := h1.keep HK2.out (fun g hg e => by
              rcases h1 with ⟨hv, _⟩ | ⟨g', t, hv, hr, _⟩
              · rw [hv] at hg; simp [Value.ownBlock] at hg
              · rw [hv] at hg; simp [Value.ownBlock] at hg; subst hg
                exact Dp.own_bytes_type HO1.out _ _ hr e)
            exact h2.keep k3 (fun _ _ e => e)
          have HML : Hid ((Dp.marks M n).length = n) := by unfold Hid; simp [Dp.marks]
          have HK3 := Hid.mk_ k3
          clear k3
          go_wp2_with (at_builtin; refine Dp.wpList_append_Own2 rfl _ _ 47 rfl 5 (.int .u8 0) 1 Tryz.underlying47 infoU82 rfl (.slice a0 n c0) (Dp.marks M n) rfl HL2.out ⟨w2.heap.size, 0, none⟩ 1 1 [.int .u8 M] rfl rfl NW2.out (fun x hx => by simp at hx; subst hx; rfl) (by omega) (by rw [HML.out]; unfold maxLen; omega) (by rw [HML.out]; omega) ?_)
          intro vl4 w4 o4 k4 s4
          rw [Dp.marks_snoc] at o4
          have HO4 : Hid (Dp.Own w4 5 vl4 (Dp.marks M (A.length + (k + 1)))) := by unfold Hid; rw [show A.length + (k + 1) = n + 1 by have := HN.out; omega]; exact o4
          have HBN : Hid (∀ g, vl4.ownBlock = some g → w.heap.size ≤ g ∨ o = some g) := by
            intro g hg
            rcases s4.out with hh | hh
            · rw [hh.1] at hg; exact HBl.out g hg
            · rw [hh.1] at hg
              simp at hg
              left; omega
          have HON : Hid (Dp.Overed w.heap.size o w4 M vo2 (vls ++ [Value.slice a0 n c0]) (A.length + (k + 1))) := by
            unfold Hid
            rw [show A.length + (k + 1) = n + 1 by have := HN.out; omega]
            refine HOv.out.step HOl.out HBl.out HK1.out HO2.out HK2.out HS2.out HK3.out o4 k4 ?_
            rcases s4.out with hh | hh
            · exact .inl hh.1
            · exact .inr hh.2.2
          have HKN : Hid (Dp.Keeps (fun k => o = some k) w w4) := by
            refine (((HKr.out.next HK1.out (fun q _ e => e.elim)).next HK2.out (fun q hq e => ?_)).next HK3.out (fun q _ e => e.elim)).next k4 (fun q hq e => ?_)
            · have := HOv.out.new q e; omega
            · rcases HBl.out q e with h | h
              · omega
              · exact h
          have hs4 : w.heap.size ≤ w4.heap.size := by have := k4.size; simp at this; omega
          have hvl4 : (vls ++ [Value.slice a0 n c0]).length = k + 1 := by rw [List.length_append, hvl]; rfl
          clear o4 k4 s4 NW2 HL2 HO1 HO2 HK1 HK2 HK3 HS2 HOv HOl HBl HKr hvl
          go_wp2
          go_roundw
          case rel => exact ⟨k + 1, vls ++ [Value.slice a0 n c0], by omega, by go_num, HO4, HBN, HON, hvl4, HKN, hs4⟩
          case measure => simp [intOf]; omega
        · obtain rfl : k = 4 := by omega
          go_wp2
          go_ret
          exact ⟨_, vls, rfl, HOv.out, HKr.out⟩

namespace Dp
theorem Overed.elem {B : Nat} {o : Option Nat} {w : World} {M : Int} {vo : Value} {vls : List Value} {n : Nat} (h : Overed B o w M vo vls n) (i : Nat) (hi : i < vls.length) : ∃ go cap, vo = .slice (some ⟨go, 0, none⟩) vls.length cap ∧ w.cell? ⟨go, i, none⟩ = some vls[i] := by
  rcases h.own with ⟨_, hx⟩ | ⟨go, tail, hv, hr, _⟩
  · rw [hx] at hi; simp at hi
  · refine ⟨go, _, hv, ?_⟩
    rw [hr.cell, List.getElem?_append_left hi, List.getElem?_eq_getElem hi]
end Dp

set_option maxRecDepth 100000 in
set_option maxHeartbeats 1000000 in
theorem keepMarked (B : Nat) (o : Option Nat) (w : World) (vo : Value) (vls : List Value) (M : Int) (n : Nat) (h : Dp.Overed B o w M vo vls n) (hv : vls.length ≤ 16777216) (hn : n ≤ 16777300) :
    Calls Tryz.prog 46 #[vo, .int .u8 M] w fun e w' => e = .returned (.bool true) ∧ w' = w := by
  obtain ⟨va, vc, ev⟩ := h.own.isSlice
  subst ev
  have H := Hid.mk_ h
  clear h
  go_enter Tryz.func46, Tryz.ntmps46
  go_wp2
  go_loop [5] (fun i => ∃ k : Nat, k ≤ vls.length ∧ i = .int .i64 k) (fun i => vls.length - (intOf i).toNat)
  case atStart => exact ⟨0, Nat.zero_le _, rfl⟩
  case round =>
    obtain ⟨k, hk, rfl⟩ := hrel
    by_cases hlt : k < vls.length
    · have hlt' : (k : Int) < (vls.length : Int) := by omega
      obtain ⟨go, cap, e, hc⟩ := H.out.elem k hlt
      simp only [Value.slice.injEq, true_and] at e
      obtain ⟨rfl, rfl⟩ := e
      obtain ⟨q, hq, hm, _⟩ := H.out.each vls[k] (List.getElem_mem hlt)
      obtain ⟨ad, cp, g, hvk, hcell⟩ : ∃ ad cp g, vls[k] = .slice ad q cp ∧ (0 < q → ad = some ⟨g, 0, none⟩ ∧ ∀ j, j < q → w.cell? ⟨g, j, none⟩ = some (.int .u8 M)) := by
        rcases hm with ⟨e, e2⟩ | ⟨g, cp, C, e, _, hb, hcs⟩
        · exact ⟨none, 0, 0, by rw [e, e2], fun h => by omega⟩
        · refine ⟨_, cp, g, e, fun _ => ⟨rfl, fun j hj => ?_⟩⟩
          rw [← hcs j hj]
          simp [World.cell?, hb]
      rw [hvk] at hc
      have HCE := Hid.mk_ hcell
      clear hcell hvk hm
      have hqb : q ≤ 16777300 := by omega
      go_wp2
      go_loop [6] (fun i => ∃ j : Nat, j ≤ q ∧ i = .int .i64 j) (fun i => q - (intOf i).toNat)
      case atStart => exact ⟨0, Nat.zero_le _, rfl⟩
      case round =>
        obtain ⟨j, hj, rfl⟩ := hrel
        by_cases hjq : j < q
        · have hjq' : (j : Int) < (q : Int) := by omega
          obtain ⟨rfl, hcs⟩ := HCE.out (by omega)
          have cj := hcs j hjq
          clear hcs
          go_wp2
          go_round
          case rel => exact ⟨j + 1, by omega, by go_num⟩
          case measure => simp [intOf]; omega
        · have hjq' : ¬ (j : Int) < (q : Int) := by omega
          go_wp2
          go_round
          case rel => exact ⟨k + 1, by omega, by go_num⟩
          case measure => simp [intOf]; omega
    · have hlt' : ¬ (k : Int) < (vls.length : Int) := by omega
      go_wp2
      go_ret
      exact ⟨rfl, rfl⟩
end Go.Proofs.YtdipojfngdceoaaGreatDoor

/- A witness that is taken for another step than the machine's parts from the machine's own where two texts have one sum. No program is named here. -/
namespace Go.Proofs.YtdipojfngdceoaaGreatDoor
namespace Dp
theorem heard_own (m : Mach) (hok : m.Ok) (h5 : m.step.2 ≠ 5) : ∃ T', heard (stamp m.s (root m.cells)) (label m.s (root m.cells) ++ shown m) = some (m.step.1.s, ⟨[], root m.step.1.cells, T'⟩, m.step.2) := by
  have hb := root_bd m.cells
  obtain ⟨e1, e2, e3⟩ := unlab_label m.s (root m.cells) (shown m) hok.s (by omega)
  have hlen : (label m.s (root m.cells)).length = 47 := label_length _ _ hok.s.len
  have hdrop : (label m.s (root m.cells) ++ shown m).drop 47 = shown m := by
    have := List.drop_left (l₁ := label m.s (root m.cells)) (l₂ := shown m)
    rwa [hlen] at this
  obtain ⟨x, h1, h2⟩ := coreStep_record m []
  have hsh : shown m = x := by unfold shown; rw [h1]; rfl
  obtain ⟨T', h3⟩ := h2 h5 hok [] []
  rw [List.append_nil] at h3
  refine ⟨T', ?_⟩
  unfold heard
  rw [if_pos ⟨by rw [List.length_append, hlen]; omega, e3, by rw [e1, e2]; rfl⟩, e1, e2, hdrop, hsh, h3]
  simp
theorem heard_ok {S : Int} {l : List UInt8} (h : (checked S l).2 = 0) : ∃ r, heard S l = some r ∧ r.2.2 = 0 ∧ (checked S l).1 = stamp r.1 r.2.1.root := by
  unfold checked at h ⊢
  cases hr : heard S l with
  | none => rw [hr] at h; simp [toldBy] at h
  | some r =>
    rw [hr] at h
    unfold toldBy at h ⊢
    by_cases h0 : r.2.2 = 0
    · exact ⟨r, rfl, h0, by simp [h0]⟩
    · simp [h0] at h
/-- The texts of the machine's own account, and those of one that is taken for another step, part. -/
theorem collide (m : Mach) (hok : m.Ok) (l : List UInt8) (h5 : m.step.2 ≠ 5) (h0 : (checked (stamp m.s (root m.cells)) l).2 = 0) (hd : ¬ (m.step.2 = 0 ∧ stamp m.step.1.s (root m.step.1.cells) = (checked (stamp m.s (root m.cells)) l).1)) :
    ∃ r1 r2, heard (stamp m.s (root m.cells)) (label m.s (root m.cells) ++ shown m) = some r1 ∧ heard (stamp m.s (root m.cells)) l = some r2 ∧ Clash (believed (label m.s (root m.cells) ++ shown m) r1) (believed l r2) := by
  obtain ⟨T', h1⟩ := heard_own m hok h5
  obtain ⟨r2, h2, h3, h4⟩ := heard_ok h0
  refine ⟨_, r2, h1, h2, ?_⟩
  rcases heard_agree _ _ _ h1 h2 with hc | ⟨e1, e2, e3⟩
  · exact hc
  · refine absurd ⟨?_, ?_⟩ hd
    · have : m.step.2 = r2.2.2 := e3
      rw [this, h3]
    · have e1' : m.step.1.s = r2.1 := e1
      have e2' : root m.step.1.cells = r2.2.1.root := e2
      rw [h4, e1', e2']
end Dp
end Go.Proofs.YtdipojfngdceoaaGreatDoor

/- The texts that are believed are short. No program is named here. -/
namespace Go.Proofs.YtdipojfngdceoaaGreatDoor
namespace Dp
theorem coreStep_inv {σ : Type} (M : Memo σ) (I : σ → Prop) (hl : ∀ m n r, M.load m n = some r → I m → I r.1) (hs : ∀ m n v r, M.store m n v = some r → I m → I r.1) (hr : ∀ m n r, M.source m n = some r → I m → I r.1) (s : Cs) (m : σ) (r : Cs × σ × Int) (h : coreStep M s m = some r) (hm : I m) : I r.2.1 := by
  unfold coreStep at h
  by_cases ho : s.over = true
  · rw [if_pos ho] at h
    rw [← Option.some.inj h]; exact hm
  · rw [if_neg ho] at h
    cases h1 : M.load m s.pc with
    | none => rw [h1] at h; cases h
    | some a =>
      rw [h1] at h
      have ha := hl _ _ _ h1 hm
      simp only at h
      by_cases he : a.2.2 = 0
      · rw [if_neg (by simp [he])] at h
        have key : ∀ q, perform M s a.1 (decode a.2.1) = some q → I q.2.1 := by
          intro q hq
          unfold perform at hq
          split at hq
          · cases h2 : M.load a.1 (wrap (s.reg (decode a.2.1).b + (decode a.2.1).n)) with
            | none => rw [h2] at hq; cases hq
            | some c =>
              rw [h2] at hq
              have hc := hl _ _ _ h2 ha
              simp only at hq
              split at hq <;> (rw [← Option.some.inj hq]; exact hc)
          · split at hq
            · cases h2 : M.store a.1 (wrap (s.reg (decode a.2.1).b + (decode a.2.1).n)) (s.reg (decode a.2.1).a) with
              | none => rw [h2] at hq; cases hq
              | some c =>
                rw [h2] at hq
                have hc := hs _ _ _ _ h2 ha
                simp only at hq
                split at hq <;> (rw [← Option.some.inj hq]; exact hc)
            · split at hq
              · cases h2 : M.source a.1 (s.reg (decode a.2.1).b) with
                | none => rw [h2] at hq; cases hq
                | some c =>
                  rw [h2] at hq
                  have hc := hr _ _ _ h2 ha
                  simp only at hq
                  split at hq <;> (rw [← Option.some.inj hq]; exact hc)
              · rw [← Option.some.inj hq]; exact ha
        cases h3 : perform M s a.1 (decode a.2.1) with
        | none => rw [h3] at h; cases h
        | some q =>
          rw [h3] at h
          have hq := key q h3
          simp only at h
          split at h <;> (rw [← Option.some.inj h]; exact hq)
      · rw [if_pos he] at h
        rw [← Option.some.inj h]; exact ha
theorem ptext_len (a : Int) (o : List Int) (n d : Nat) : (ptext a o n d).length ≤ 300 := by
  unfold ptext
  split
  · simp [cellText, four_length]
  · split <;> simp [halvesText, two_length]
theorem pfTexts_small (l : List UInt8) (n : Nat) : ∀ t ∈ pfTexts l n, t.length ≤ 300 := by
  intro t ht
  simp only [pfTexts, List.mem_map] at ht
  obtain ⟨j, _, rfl⟩ := ht
  exact ptext_len _ _ _ _
def smallPm (m : Pm) : Prop := ∀ t ∈ m.texts, t.length ≤ 300
theorem heard_small (S : Int) (l : List UInt8) : ∀ t ∈ heardTexts S l, t.length ≤ 300 := by
  unfold heardTexts
  cases hr : heard S l with
  | none => intro t ht; simp at ht
  | some r =>
    unfold heard at hr
    split at hr
    · cases h1 : coreStep proofsMemo (unlab l) ⟨l.drop 47, unroot l, []⟩ with
      | none => rw [h1] at hr; cases hr
      | some q =>
        rw [h1] at hr
        simp only at hr
        have hq : smallPm q.2.1 := by
          refine coreStep_inv proofsMemo smallPm ?_ ?_ ?_ _ _ _ h1 (fun t ht => by simp at ht)
          · intro m n r hr hm
            simp only [proofsMemo] at hr
            split at hr
            · rw [← Option.some.inj hr]; exact hm
            · split at hr
              · rw [← Option.some.inj hr]
                intro t ht
                rcases List.mem_append.1 ht with h | h
                · exact hm t h
                · exact pfTexts_small _ _ t h
              · cases hr
          · intro m n v r hr hm
            simp only [proofsMemo] at hr
            split at hr
            · rw [← Option.some.inj hr]; exact hm
            · split at hr
              · rw [← Option.some.inj hr]
                intro t ht
                rcases List.mem_append.1 ht with h | h
                · exact hm t h
                · exact pfTexts_small _ _ t h
              · cases hr
          · intro m n r hr hm
            simp only [proofsMemo] at hr
            split at hr
            · rw [← Option.some.inj hr]
              intro t ht
              rcases List.mem_append.1 ht with h | h
              · exact hm t h
              · obtain rfl : t = srcNext m.rest := by simpa using h
                have := (m.rest.getD 0 0).toNat_lt
                unfold srcNext srcSize
                rw [List.length_take]; omega
            · cases hr
        split at hr
        · have e := Option.some.inj hr
          subst e
          intro t ht
          unfold believed at ht
          rcases List.mem_cons.1 ht with h | h
          · rw [h, label_length _ _ (unlab_ok l).len]; omega
          · exact hq t h
        · cases hr
    · cases hr
end Dp
end Go.Proofs.YtdipojfngdceoaaGreatDoor
