/- Steps on the way: LawOpens, LawKeep, LawChecks. -/
import Derived.Test.YtdipojfngdceoaaGreatDoorShQ09
import Derived.Test.YtdipojfngdceoaaGreatDoorShQ19
import Derived.Test.YtdipojfngdceoaaGreatDoorShQ24
import Derived.Test.YtdipojfngdceoaaGreatDoorShQ25
import Derived.Test.YtdipojfngdceoaaGreatDoorShQ26
import Derived.Test.YtdipojfngdceoaaGreatDoorShQ32
import Derived.Test.YtdipojfngdceoaaGreatDoorShQ37
namespace Go.Proofs.YtdipojfngdceoaaGreatDoor
open Go.RowKit
theorem lawOpensG (w : World) (W : Nat) (t0 t1 t2 t3 t4 t5 : Value) (y0 y2 y3 y5 : List Value) (vW vT : Value) (words : List Int) (srcs : List (List UInt8)) (hW : Dp.Ints w vW words) (hT : Dp.Texts w vT srcs) (h64 : ∀ x ∈ words, -9223372036854775808 ≤ x ∧ x ≤ 9223372036854775807)
  (hR : Dp.Row w W 32 [t0, t1, t2, t3, t4, t5]) (hO0 : Dp.Own w 71 t0 y0) (hO2 : Dp.Own w 47 t2 y2) (hO3 : Dp.Own w 22 t3 y3) (hO5 : Dp.Own w 76 t5 y5) (hys : y0.length ≤ 16 ∧ y2.length ≤ 3000000 ∧ y3.length ≤ 16 ∧ y5.length ≤ 16)
  (hBT : srcs ≠ [] → ∀ b o n c, vT = Value.slice (some ⟨b, o, none⟩) n c → b ≠ W ∧ ¬ t2.ownBlock = some b) :
  Calls Tryz.prog 13 #[.pointer (some ⟨W, 0, none⟩), .agg #[vW, vT]] w fun e w' => e = .returned (.bool true) ∧ ∃ v0 v2 v3 v5 bs ts NN M6, Dp.OpenG w w' W t0 t1 t2 t3 t4 t5 y2 y3 y5 words.length srcs v0 v2 v3 v5 bs ts NN M6 ∧ ((Dp.newOk words srcs = false ∧ v0 = t0 ∧ Dp.Own w' 71 t0 y0) ∨ (Dp.newOk words srcs = true ∧ ∃ s b p g G vs vr, Dp.MadeG w' t0 v0 y0 NN M6 s b p g G vs vr (Dp.newMach words srcs))) := by
 have hW' := hW
 obtain ⟨wb, wo, wad, wcap, rfl, _⟩ := hW'
 cases wad with
 | none => exact lawOpensGN w W t0 t1 t2 t3 t4 t5 y0 y2 y3 y5 _ vT words srcs hW hT h64 hR hO0 hO2 hO3 hO5 hys hBT (fun ad n c e => by simp only [Value.slice.injEq] at e; rw [← e.1]; rfl)
 | some a => exact lawOpensGS w W t0 t1 t2 t3 t4 t5 y0 y2 y3 y5 _ vT words srcs hW hT h64 hR hO0 hO2 hO3 hO5 hys hBT (fun ad n c e => by simp only [Value.slice.injEq] at e; rw [← e.1]; rfl)
namespace Dp
theorem OpenedG.old {w : World} {W lb sb : Nat} {v0 v2 v3 v5 : Value} {n : Nat} {srcs : List (List UInt8)} {bs ts : List Nat} (h : OpenedG w W lb sb v0 nilV v2 v3 nilV v5 [] [] [] n srcs bs ts) : Opened w W lb sb v0 v2 v3 v5 n srcs bs ts :=
 ⟨h.row, h.own2, h.turned, h.own3, h.l, h.own5, h.s, h.marks, h.hbl, h.htl⟩
end Dp
theorem lawOpens (w : World) (W : Nat) (vW vT : Value) (words : List Int) (srcs : List (List UInt8)) (hW : Dp.Ints w vW words) (hT : Dp.Texts w vT srcs) (h64 : ∀ x ∈ words, -9223372036854775808 ≤ x ∧ x ≤ 9223372036854775807)
  (hR : Dp.Row w W 32 [Dp.nilV, Dp.nilV, Dp.nilV, Dp.nilV, Dp.nilV, Dp.nilV]) (hBT : srcs ≠ [] → ∀ b o n c, vT = Value.slice (some ⟨b, o, none⟩) n c → b ≠ W) :
  Calls Tryz.prog 13 #[.pointer (some ⟨W, 0, none⟩), .agg #[vW, vT]] w fun e w' => e = .returned (.bool true) ∧ Dp.Keeps (fun q => q = W) w w' ∧ ((Dp.newOk words srcs = false ∧ ∃ v2 v3 v5, ∀ w'', Dp.Keeps (fun _ => False) w' w'' → Dp.KeptOk w'' W Dp.nilV Dp.nilV v2 v3 Dp.nilV v5) ∨ (Dp.newOk words srcs = true ∧ ∃ s b p g G vs vr sg scap v2 v3 v5, Dp.Side w' s b p g G vs vr (Dp.newMach words srcs) ∧ (∀ w'', Dp.Keeps (Dp.Foot b p g) w' w'' → Dp.KeptOk w'' W (.slice (some ⟨sg, 0, none⟩) 1 scap) Dp.nilV v2 v3 Dp.nilV v5 ∧ w''.cell? ⟨sg, 0, none⟩ = some (.pointer (some ⟨s, 0, none⟩))) ∧ w.heap.size ≤ b ∧ w.heap.size ≤ p ∧ w.heap.size ≤ g)) := by
 have hI := hW
 have hTx := hT
 obtain ⟨_, _, _, _, _, hwl, _⟩ := hI
 obtain ⟨_, _, _, _, _, htl, _, htc⟩ := hTx
 have hsl : ∀ l ∈ srcs, l.length ≤ 1048576 := fun l hl => by obtain ⟨i, hi, rfl⟩ := List.getElem_of_mem hl; exact (htc i hi).1
 have hno : ∀ q, ¬ Dp.nilV.ownBlock = some q := fun q e => by simp [Dp.nilV, Value.ownBlock] at e
 have hWl := hR.lt
 refine (lawOpensG w W Dp.nilV Dp.nilV Dp.nilV Dp.nilV Dp.nilV Dp.nilV [] [] [] [] vW vT words srcs hW hT h64 hR (Dp.Own.nil _ _) (Dp.Own.nil _ _) (Dp.Own.nil _ _) (Dp.Own.nil _ _) (by simp) (fun hne b o n c e => ⟨hBT hne b o n c e, hno b⟩)).mono ?_
 rintro e w' ⟨he, v0, v2, v3, v5, bs, ts, NN, M6, g, hcase⟩
 have hnn := g.nn
 have hop := g.op.old
 refine ⟨he, g.keeps.mono (fun q _ e => ?_), ?_⟩
 ·rcases e with e | e | e | e | e
  ·exact e
  ·exact absurd e (hno q)
  ·exact absurd e (hno q)
  ·exact absurd e (hno q)
  ·exact absurd e (hno q)
 ·rcases hcase with ⟨hk, rfl, _⟩ | ⟨hk, s, b, p, g', G, vs, vr, hsd, hown, _, _, hbk⟩
  ·exact .inl ⟨hk, v2, v3, v5, fun w'' kx => (hop.keep kx (fun e => e) (fun _ _ e => e) (fun _ _ e => e) (fun _ _ e => e) (fun e => e) (fun _ _ e => e) (fun e => e) (fun _ _ e => e)).kept hwl htl hsl⟩
  ·rcases hown with ⟨_, hx⟩ | ⟨sg, tail, hv, hr, _⟩
   ·simp at hx
   ·have hv' : v0 = .slice (some ⟨sg, 0, none⟩) 1 (1 + tail.length) := hv
    subst hv'
    have hb := hbk b (.inl rfl)
    have hp := hbk p (.inr (.inl rfl))
    have hg := hbk g' (.inr (.inr (.inl rfl)))
    exact .inr ⟨hk, s, b, p, g', G, vs, vr, sg, _, v2, v3, v5, hsd, hop.all hsd hr NN ⟨hb.1, hp.1, hg.1⟩ (by omega) (by omega) (by omega) (fun q hq => (g.bsl q hq).2) hwl htl hsl, by omega, by omega, by omega⟩
namespace Dp
def DigS (w : World) (v : Value) (f : Nat → Value) (n : Nat) : Prop :=
 (v = .slice none 0 0 ∧ n = 0) ∨ ∃ g cap C, v = .slice (some ⟨g, 0, none⟩) n cap ∧ n ≤ maxLen ∧ w.heap[g]? = some (.cells C 5 (0, 0)) ∧ ∀ j, j < n → C[j]? = some (f j)
theorem DigS.keep {S : Nat → Prop} {w w' : World} {v : Value} {f : Nat → Value} {n : Nat} (h : DigS w v f n) (k : Keeps S w w') (hs : ∀ g C, v.ownBlock = some g → w.heap[g]? = some (.cells C 5 (0, 0)) → ¬ S g) : DigS w' v f n := by
 rcases h with h | ⟨g, cap, C, hv, hn, hb, hc⟩
 ·exact .inl h
 ·exact .inr ⟨g, cap, C, hv, hn, (k.block g (Array.getElem?_eq_some_iff.1 hb).1 (hs g C (by rw [hv]; rfl) hb)).trans hb, hc⟩
def digs (f : Nat → Value) (n : Nat) : List Value := (List.range n).map f
theorem digs_length (f : Nat → Value) (n : Nat) : (digs f n).length = n := by simp [digs]
theorem digs_snoc (f : Nat → Value) (n : Nat) : digs f n ++ [f n] = digs f (n + 1) := by simp [digs, List.range_succ]
theorem own_digs {w : World} {v : Value} {f : Nat → Value} {n : Nat} (h : Own w 5 v (digs f n)) : DigS w v f n := by
 have hl := digs_length f n
 rcases h with ⟨hv, h⟩ | ⟨g, tail, hv, hr, hm⟩
 ·rw [h] at hl; exact .inl ⟨hv, by simpa using hl.symm⟩
 ·rw [hl] at hv hm
  refine .inr ⟨g, _, _, hv, by omega, hr, fun j hj => ?_⟩
  rw [List.getElem?_toArray, List.getElem?_append_left (by omega)]
  simp [digs, hj]
theorem DigS.short {w w' : World} {v u : Value} {f : Nat → Value} {n k : Nat} (h : DigS w v f n) (hu : DigS w' u f k) (hnk : n ≤ k) (hb : v.ownBlock = u.ownBlock) : DigS w' v f n := by
 rcases h with h | ⟨g, cap, C, hv, hn, _, _⟩
 ·exact .inl h
 ·rcases hu with ⟨hu, _⟩ | ⟨g', cap', C', hu, _, hb', hc'⟩
  ·rw [hv, hu] at hb; simp [Value.ownBlock] at hb
  ·rw [hv, hu] at hb
   simp [Value.ownBlock] at hb
   subst hb
   exact .inr ⟨g, cap, C', hv, hn, hb', fun j hj => hc' j (by omega)⟩
theorem own_u8_type {w : World} {e : TypeId} {v : Value} {xs : List Value} (h : Own w e v xs) (he : e ≠ 5) : ∀ g C, w.heap[g]? = some (.cells C 5 (0, 0)) → ¬ v.ownBlock = some g := by
 intro g C hg hv
 rcases h with ⟨rfl, _⟩ | ⟨g1, t1, rfl, r1, _⟩
 ·simp [Value.ownBlock] at hv
 ·simp [Value.ownBlock] at hv
  subst hv
  unfold Row at r1
  rw [hg] at r1
  simp at r1
  exact he r1.2.symm
theorem own_u8_row {w : World} {v : Value} {xs : List Value} (h : Own w 5 v xs) : ∀ g, v.ownBlock = some g → ∃ C, w.heap[g]? = some (.cells C 5 (0, 0)) := by
 intro g hg
 rcases h with ⟨hv, _⟩ | ⟨g', t, hv, hr, _⟩
 ·rw [hv] at hg; simp [Value.ownBlock] at hg
 ·rw [hv] at hg; simp [Value.ownBlock] at hg; subst hg
  exact ⟨_, hr⟩
theorem row_u8_type {w : World} {W : Nat} {e : TypeId} {cs : List Value} (h : Row w W e cs) (he : e ≠ 5) : ∀ g C, w.heap[g]? = some (.cells C 5 (0, 0)) → g ≠ W := by
 intro g C hg e1
 subst e1
 unfold Row at h
 rw [hg] at h
 simp at h
 exact he h.2.symm
structure Kp (B : Nat) (o : Option Nat) (w : World) (f : Nat → Value) (u1 : Value) (x1 vls : List Value) (n : Nat) : Prop where
 own : Own w 47 u1 (x1 ++ vls)
 each : ∀ u ∈ vls, ∃ k, k ≤ n ∧ DigS w u f k ∧ ∀ g, u.ownBlock = some g → B ≤ g ∨ o = some g
theorem Kp.step {B W : Nat} {o : Option Nat} {w wA w5 : World} {f : Nat → Value} {u1 u1' vl vl' : Value} {x1 vls cs : List Value} {n : Nat} (h : Kp B o w f u1 x1 vls n) (hW : Row w W 32 cs) (hl : Own w 5 vl (digs f n)) (hbl : ∀ g, vl.ownBlock = some g → B ≤ g ∨ o = some g)
  (kA : Keeps (fun q => q = W ∨ u1.ownBlock = some q) w wA) (oA : Own wA 47 u1' (x1 ++ (vls ++ [vl]))) (o5 : Own w5 5 vl' (digs f (n + 1))) (k5 : Keeps (fun q => vl.ownBlock = some q) wA w5) (h5 : vl'.ownBlock = vl.ownBlock ∨ Keeps (fun _ => False) wA w5) : Kp B o w5 f u1' x1 (vls ++ [vl]) (n + 1) := by
 have hno : ∀ g C, w.heap[g]? = some (.cells C 5 (0, 0)) → ¬ (g = W ∨ u1.ownBlock = some g) := fun g C hg e => e.elim (row_u8_type hW (by decide) g C hg) (own_u8_type h.own (by decide) g C hg)
 have lA : Own wA 5 vl (digs f n) := hl.keep kA (fun g hg => by obtain ⟨C, hC⟩ := own_u8_row hl g hg; exact hno g C hC)
 have eachA : ∀ u ∈ vls ++ [vl], ∃ k, k ≤ n ∧ DigS wA u f k ∧ ∀ g, u.ownBlock = some g → B ≤ g ∨ o = some g := fun u hu => by
  rcases List.mem_append.1 hu with hu | hu
  ·obtain ⟨k, hk, hm, hg⟩ := h.each u hu
   exact ⟨k, hk, hm.keep kA (fun g C _ hC => hno g C hC), hg⟩
  ·obtain rfl : u = vl := by simpa using hu
   exact ⟨n, Nat.le_refl _, own_digs lA, hbl⟩
 refine ⟨oA.keep k5 (fun g hg e => ?_), fun u hu => ?_⟩
 ·obtain ⟨C, hC⟩ := own_u8_row lA g e
  exact own_u8_type oA (by decide) g C hC hg
 ·obtain ⟨k, hk, hm, hg⟩ := eachA u hu
  refine ⟨k, by omega, ?_, hg⟩
  rcases h5 with e4 | e4
  ·by_cases hb : u.ownBlock = vl.ownBlock
   ·exact hm.short (own_digs o5) (by omega) (by rw [hb, e4])
   ·exact hm.keep k5 (fun g C hg _ e => hb (by rw [hg, e]))
  ·exact hm.keep e4 (fun _ _ _ _ e => e)
theorem digs_set (f : Nat → Value) (A : List Value) (i : Nat) (h : i < A.length) : (digs f i ++ A.drop i).set i (f i) = digs f (i + 1) ++ A.drop (i + 1) := by
 rw [List.set_append_right _ _ (by rw [digs_length]; omega), digs_length, Nat.sub_self, List.drop_eq_getElem_cons h, List.set_cons_zero, ← digs_snoc, List.append_assoc]; rfl
theorem cell_one3 (w : World) (e : TypeId) (v : Value) (j : Nat) (u : Value) (h : [v][j]? = some u) : (w.alloc (.cells #[v] e)).cell? ((⟨w.heap.size, 0, none⟩ : Addr).add j) = some u := by
 rw [add_zero_off]
 exact ((Row.allocNew w e [v]).cell j).trans h
section
variable {w w' : World} {W : Nat} {T : Nat → Prop} {v0 v1 v2 v3 v4 v5 : Value} {x1 x2 x3 x4 x5 : List Value}
theorem Lists.keptMore {o : Option Nat} {u1 : Value} {vls : List Value} {n : Nat} (h : Lists w W T v0 v1 v2 v3 v4 v5 x1 x2 x3 x4 x5) (hr : Row w' W 32 [v0, u1, v2, v3, v4, v5]) (k : Keeps (fun q => q = W ∨ v1.ownBlock = some q ∨ o = some q) w w') (ho : ∀ q, o = some q → ¬ listF W T v1 v2 v3 v4 v5 q)
  (hu : u1.ownBlock = v1.ownBlock ∨ ∀ g, u1.ownBlock = some g → w.heap.size ≤ g) (hk : Kp w.heap.size o w' (fun j => .int .u8 (digitN x1.length j : Int)) u1 x1 vls n) (hl : vls.length = 4) (hn : n ≤ 16777216) :
  ∃ T', Lists w' W T' v0 u1 v2 v3 v4 v5 (x1 ++ vls) x2 x3 x4 x5 ∧ ∀ q, listF W T' u1 v2 v3 v4 v5 q → listF W T v1 v2 v3 v4 v5 q ∨ o = some q ∨ w.heap.size ≤ q := by
 have hT : ∀ q, T q → ¬ (q = W ∨ v1.ownBlock = some q ∨ o = some q) := fun q hq e => by
  rcases e with e | e | e
  ·exact h.tW (e ▸ hq)
  ·exact h.tO q (.inl e) hq
  ·exact ho q e (.inr (.inl hq))
 have hO : ∀ q, v2.ownBlock = some q ∨ v3.ownBlock = some q ∨ v4.ownBlock = some q ∨ v5.ownBlock = some q → ¬ (q = W ∨ v1.ownBlock = some q ∨ o = some q) := fun q hq e => by
  rcases e with e | e | e
  ·exact h.notW q (.inr hq) e
  ·rcases hq with hq | hq | hq | hq
   ·exact h.v12 q e hq
   ·exact own_own h.l1.own h.l3.own (by decide) q e hq
   ·exact own_own h.l1.own h.l4.own (by decide) q e hq
   ·exact own_own h.l1.own h.l5.own (by decide) q e hq
  ·exact ho q e (.inr (.inr (.inr hq)))
 have hin : ∀ q, T q → T q ∨ ∃ u ∈ vls, u.ownBlock = some q := fun q e => .inl e
 have hnew : ∀ u ∈ vls, ∀ q, u.ownBlock = some q → (w.heap.size ≤ q ∨ o = some q) ∧ ∃ C, w'.heap[q]? = some (.cells C 5 (0, 0)) := fun u hu q hq => by
  obtain ⟨j, _, hd, hg⟩ := hk.each u hu
  refine ⟨hg q hq, ?_⟩
  rcases hd with ⟨e, _⟩ | ⟨g, cap, C, e, _, hb, _⟩
  ·rw [e] at hq; simp [Value.ownBlock] at hq
  ·rw [e] at hq; simp [Value.ownBlock] at hq; subst hq; exact ⟨C, hb⟩
 have hold : ∀ q, v2.ownBlock = some q ∨ v3.ownBlock = some q ∨ v4.ownBlock = some q ∨ v5.ownBlock = some q → q < w.heap.size := fun q hq => h.outlt q (.inr hq)
 refine ⟨fun q => T q ∨ ∃ u ∈ vls, u.ownBlock = some q, ⟨hr, h.l1.snoc k hT hin hk.own (fun i hi => ?_), h.l2.keep k hT hin (fun q hq => hO q (.inl hq)), h.l3.keep k hT hin (fun q hq => hO q (.inr (.inl hq))), h.l4.keep k hT hin (fun q hq => hO q (.inr (.inr (.inl hq)))), h.l5.keep k hT hin (fun q hq => hO q (.inr (.inr (.inr hq)))), ?_, ?_, ?_, ?_, ?_⟩, ?_⟩
 ·obtain ⟨j, hj, hd, _⟩ := hk.each vls[i] (List.getElem_mem hi)
  have h4 := h.four
  refine ⟨j, ?_⟩
  have e : ∀ z, dig (x1.length + i) z = .int .u8 (digitN x1.length z : Int) := fun z => by
   unfold dig
   rw [show (x1.length + i) / 4 * 4 = x1.length by omega]
  rcases hd with ⟨ev, rfl⟩ | ⟨g, cap, C, ev, _, hb, hc⟩
  ·rw [ev]
   exact ⟨0, 0, none, 0, rfl, by omega, fun hz => absurd hz (by omega), fun z hz => absurd hz (by omega)⟩
  ·refine ⟨g, 0, _, cap, ev, by omega, fun _ => ⟨rfl, .inr ⟨vls[i], List.getElem_mem hi, by rw [ev]; rfl⟩⟩, fun z hz => ?_⟩
   rw [e z, ← hc z hz, Nat.zero_add]
   simp [World.cell?, hb]
 ·rintro (e | ⟨u, hu, e⟩)
  ·exact h.tW e
  ·obtain ⟨_, C, hC⟩ := hnew u hu W e
   exact row_u8_type hr (by decide) W C hC rfl
 ·rintro q hq (e | ⟨u, hu, e⟩)
  ·rcases hq with hq | hq
   ·rcases hu with hu | hu
    ·rw [hu] at hq; exact h.tO q (.inl hq) e
    ·have := hu q hq; have := h.tlt q e; omega
   ·exact h.tO q (.inr hq) e
  ·obtain ⟨hbl, C, hC⟩ := hnew u hu q e
   rcases hq with hq | hq
   ·exact own_u8_type hk.own (by decide) q C hC hq
   ·rcases hbl with hbl | hbl
    ·have := hold q hq; omega
    ·exact ho q hbl (.inr (.inr (.inr hq)))
 ·rintro q (e | ⟨u, hu, e⟩)
  ·exact Nat.lt_of_lt_of_le (h.tlt q e) k.size
  ·obtain ⟨_, C, hC⟩ := hnew u hu q e
   exact (Array.getElem?_eq_some_iff.1 hC).1
 ·intro q hq h2
  rcases hu with hu | hu
  ·rw [hu] at hq; exact h.v12 q hq h2
  ·have := hu q hq; have := hold q (.inl h2); omega
 ·rw [List.length_append, hl]; have := h.four; omega
 ·rintro q (e | (e | ⟨u, hu', e⟩) | e)
  ·exact .inl (.inl e)
  ·exact .inl (.inr (.inl e))
  ·rcases (hnew u hu' q e).1 with hb | hb
   ·exact .inr (.inr hb)
   ·exact .inr (.inl hb)
  ·rcases e with e | e
   ·rcases hu with hu | hu
    ·rw [hu] at e; exact .inl (.inr (.inr (.inl e)))
    ·exact .inr (.inr (hu q e))
   ·exact .inl (.inr (.inr (.inr e)))
end
end Dp
theorem infoBytes3 : (Tryz.prog.info? 47).map (fun i => (i.zero, i.size, i.bytes)) = some (some (.slice none 0 0), 1, 24) := by kernel_rfl
theorem infoU83 : (Tryz.prog.info? 5).map (fun i => (i.zero, i.size, i.bytes)) = some (some (.int .u8 0), 1, 1) := by kernel_rfl
set_option maxRecDepth 100000 in
set_option maxHeartbeats 2000000 in
theorem lawKeep (w : World) (W : Nat) (T : Nat → Prop) (v0 v1 v2 v3 v4 v5 : Value) (x1 x2 x3 x4 x5 : List Value) (a : Value) (X : List UInt8) (h : Dp.Lists w W T v0 v1 v2 v3 v4 v5 x1 x2 x3 x4 x5) (ha : Dp.Own w 5 a (Dp.vals X)) (hX : X.length ≤ 1000) (hx1 : x1.length ≤ 16777000) (haF : ∀ q, a.ownBlock = some q → ¬ Dp.listF W T v1 v2 v3 v4 v5 q) :
  Calls Tryz.prog 63 #[.pointer (some ⟨W, 0, none⟩), a] w fun e w' => e = .returned (.tuple #[]) ∧ Dp.Keeps (fun q => q = W ∨ v1.ownBlock = some q ∨ a.ownBlock = some q) w w' ∧
   ∃ T' u1 vls, Dp.Lists w' W T' v0 u1 v2 v3 v4 v5 (x1 ++ vls) x2 x3 x4 x5 ∧ vls.length = 4 ∧ ∀ q, Dp.listF W T' u1 v2 v3 v4 v5 q → Dp.listF W T v1 v2 v3 v4 v5 q ∨ a.ownBlock = some q ∨ w.heap.size ≤ q := by
 obtain ⟨va, vc, ev⟩ := ha.isSlice
 have hvl := Dp.vals_length X
 rw [hvl] at ev
 obtain ⟨o, ho⟩ : ∃ o, o = a.ownBlock := ⟨_, rfl⟩
 have HO := Hid.mk_ ho
 have HV := Hid.mk_ ha
 have HVL := Hid.mk_ hvl
 have HLT : Hid (∀ g, o = some g → g < w.heap.size) := fun g hg => ha.lt g (by rw [← ho]; exact hg)
 rw [← ho] at haF ⊢
 have HAF := Hid.mk_ haF
 have H := Hid.mk_ h
 obtain ⟨f, hf⟩ : ∃ f : Nat → Value, f = fun j => .int .u8 (Dp.digitN x1.length j : Int) := ⟨_, rfl⟩
 have HF := Hid.mk_ hf
 obtain ⟨s1, c1, e1⟩ := h.l1.own.isSlice
 have hcw : w.cell? ⟨W, 1, none⟩ = some v1 := h.row.cell 1
 rw [e1] at hcw
 have HE1 := Hid.mk_ e1
 have HR0 := Hid.mk_ h.row
 have hWlt := h.row.lt
 have HFD : Hid (∀ j, f j = .int .u8 (Dp.digitN x1.length j : Int)) := fun j => by rw [hf]
 clear ho ha hvl h haF hf e1
 subst ev
 go_enter Tryz.func63, Tryz.ntmps63
 go_wp2
 clear hcw
 go_loopw [5] (fun i wr => ∃ k : Nat, k ≤ X.length ∧ i = .int .i64 k ∧ Hid (Dp.Own wr 5 (.slice va X.length vc) (Dp.digs f k ++ (Dp.vals X).drop k)) ∧ Hid (Dp.Keeps (fun q => o = some q) w wr)) (fun i _ => X.length - (intOf i).toNat)
 case atStart => exact ⟨0, Nat.zero_le _, rfl, by simpa [Dp.digs, Hid] using HV.out, Dp.Keeps.refl _ _⟩
 case round =>
  obtain ⟨k, hk, rfl, HOk, HKk⟩ := hrel
  by_cases hlt : k < X.length
  ·have hlen : (Dp.digs f k ++ (Dp.vals X).drop k).length = X.length := by rw [List.length_append, List.length_drop, HVL.out, Dp.digs_length]; omega
   have hown := HOk.out
   rcases hown with ⟨hv, h⟩ | ⟨g, tail, hv, hr, hm⟩
   ·rw [h] at hlen; simp at hlen; omega
   ·rw [hlen] at hv hm
    simp only [Value.slice.injEq, true_and] at hv
    obtain ⟨rfl, rfl⟩ := hv
    have hog : o = some g := HO.out
    have hlen2 : (Dp.vals X).length = X.length := HVL.out
    obtain ⟨u, cu⟩ : ∃ u, wr.cell? ⟨g, k, none⟩ = some u := ⟨_, hr.cellAt k (by rw [List.length_append, hlen]; omega)⟩
    have fu := hr.frozen k
    have HN : Hid (Dp.Own (wr.setCell ⟨g, k, none⟩ (f k)) 5 (.slice (some ⟨g, 0, none⟩) X.length (X.length + tail.length)) (Dp.digs f (k + 1) ++ (Dp.vals X).drop (k + 1))) := by
     have h := hr.set k (f k)
     rw [List.set_append_left _ _ (by omega), Dp.digs_set _ _ _ (by omega)] at h
     have hl2 : (Dp.digs f (k + 1) ++ (Dp.vals X).drop (k + 1)).length = X.length := by rw [List.length_append, List.length_drop, hlen2, Dp.digs_length]; omega
     exact .inr ⟨g, tail, by rw [hl2], h, by rw [hl2]; omega⟩
    have HKN : Hid (Dp.Keeps (fun q => o = some q) w (wr.setCell ⟨g, k, none⟩ (f k))) := HKk.out.setCell (p := ⟨g, k, none⟩) (.inr hog) _
    rw [HFD.out k] at HN HKN
    have hdb := Dp.digit_bd x1.length k
    have HDG : Hid (Calls Tryz.prog 67 #[.int .i64 (x1.length : Int), .int .i64 (k : Int)] wr fun e w' => e = .returned (.int .u8 (Dp.digitN x1.length k : Int)) ∧ w' = wr) := lawDigit _ _ _ (by omega) (by omega)
    clear hr hog hlen hlen2 hm HOk HKk
    go_wp2_with fail
    refine HDG.out.mono ?_
    rintro e w2 ⟨rfl, rfl⟩
    clear HDG
    go_wp2
    go_roundw
    case rel => exact ⟨k + 1, by omega, by go_num, HN, HKN⟩
    case measure => simp [intOf]; omega
  ·obtain rfl : k = X.length := by omega
   have HM0 : Hid (Dp.Own wr 5 (.slice va X.length vc) (Dp.digs f (X.length + 0))) := by
    have h := HOk.out
    rw [List.drop_of_length_le (by rw [HVL.out]; exact Nat.le_refl _), List.append_nil] at h
    exact h
   have hoW : ¬ o = some W := fun e => HAF.out W e (.inl rfl)
   have HK0 : Hid (Dp.Keeps (fun q => q = W ∨ v1.ownBlock = some q ∨ o = some q) w wr) := HKk.out.mono (fun q _ e => .inr (.inr e))
   have HRW : Hid (Dp.Row wr W 32 [v0, v1, v2, v3, v4, v5]) := HR0.out.keep HKk.out hoW
   have HKP : Hid (Dp.Kp w.heap.size o wr f v1 x1 [] (X.length + 0)) := ⟨by rw [List.append_nil]; exact H.out.l1.own.keep HKk.out (fun q hq e => HAF.out q e (.inr (.inr (.inl hq)))), fun u hu => by simp at hu⟩
   have hwr := HKk.out.size
   clear HOk HV HKk hoW
   go_wp2
   go_loopw [1, 6, 7] (fun vl i _ wr2 => ∃ (k : Nat) (u1 : Value) (vls : List Value), k ≤ 4 ∧ i = .int .i64 k ∧ vls.length = k ∧ Hid (Dp.Own wr2 5 vl (Dp.digs f (X.length + k))) ∧ Hid (∀ g, vl.ownBlock = some g → w.heap.size ≤ g ∨ o = some g) ∧ Hid (Dp.Row wr2 W 32 [v0, u1, v2, v3, v4, v5]) ∧ Hid (Dp.Kp w.heap.size o wr2 f u1 x1 vls (X.length + k)) ∧ Hid (u1.ownBlock = v1.ownBlock ∨ ∀ g, u1.ownBlock = some g → w.heap.size ≤ g) ∧ Hid (Dp.Keeps (fun q => q = W ∨ v1.ownBlock = some q ∨ o = some q) w wr2) ∧ w.heap.size ≤ wr2.heap.size) (fun _ i _ _ => 4 - (intOf i).toNat)
   case atStart => exact ⟨0, v1, [], Nat.zero_le _, rfl, rfl, HM0, fun g hg => .inr (by rw [HO.out]; exact hg), HRW, HKP, .inl rfl, HK0, hwr⟩
   case round =>
    clear HM0 HK0 HRW HKP hwr
    obtain ⟨k, v6, vls, hk, rfl, hvl, HOl, HBl, HRW, HKP, HU1, HKr, hsz⟩ := hrel
    by_cases h4 : k < 4
    ·obtain ⟨n, hn⟩ : ∃ n, n = X.length + k := ⟨_, rfl⟩
     rw [← hn] at HOl HKP
     have hnb : n ≤ 1004 := by omega
     have HN := Hid.mk_ hn
     clear hn
     obtain ⟨a0, c0, e0⟩ := HOl.out.isSlice
     rw [Dp.digs_length] at e0
     subst e0
     have cW : wr.cell? ⟨W, 1, none⟩ = some v6 := HRW.out.cell 1
     have hxl : (x1 ++ vls).length = x1.length + k := by rw [List.length_append, hvl]
     have HXL := Hid.mk_ hxl
     clear hxl
     have k1 := (Dp.Keeps.refl (fun _ => False) wr).alloc (.cells #[.slice a0 n c0] 47)
     have NW1 : Hid (∀ j u, [Value.slice a0 n c0][j]? = some u → (wr.alloc (.cells #[.slice a0 n c0] 47)).cell? ((⟨wr.heap.size, 0, none⟩ : Addr).add j) = some u) := fun j u h => Dp.cell_one3 wr _ _ j u h
     have HO1 := Hid.mk_ (HKP.out.own.keep k1 (fun _ _ e => e))
     have HU2 : Hid (∀ u ∈ [Value.slice a0 n c0], u.oneCell' = true) := by
      intro u hu
      rw [show u = Value.slice a0 n c0 by simpa using hu]; rfl
     have HK1 := Hid.mk_ k1
     clear k1
     go_wp2_with (at_builtin; refine Dp.wpList_append_Own rfl _ _ 27 rfl 47 (.slice none 0 0) 24 Tryz.underlying27 infoBytes3 rfl v6 (x1 ++ vls) rfl HO1.out ⟨wr.heap.size, 0, none⟩ 1 1 [Value.slice a0 n c0] rfl rfl NW1.out HU2.out (by omega) (by rw [HXL.out]; unfold maxLen; omega) (by rw [HXL.out]; omega) ?_)
     intro vo2 w2 o2 k2 s2
     have HS2 : Hid (vo2.ownBlock = v6.ownBlock ∨ ∀ g, vo2.ownBlock = some g → w.heap.size ≤ g) := by
      rcases s2.out with hh | hh
      ·exact .inl hh.1
      ·refine .inr fun g hg => ?_
       rw [hh.1] at hg
       simp at hg
       omega
     have k12 : Dp.Keeps (fun q => v6.ownBlock = some q) wr w2 := (HK1.out.mono (fun _ _ e => e.elim)).trans k2
     have r2 : Dp.Row w2 W 32 [v0, v6, v2, v3, v4, v5] := HRW.out.keep k12 (fun e => HKP.out.own.ne HRW.out (by decide) W e rfl)
     have cW2 : w2.cell? ⟨W, 1, none⟩ = some v6 := r2.cell 1
     have fW2 := r2.frozen 1
     obtain ⟨a2, c2, e2⟩ := o2.isSlice
     generalize hll : (x1 ++ (vls ++ [Value.slice a0 n c0])).length = N2 at e2
     clear hll
     subst e2
     have kset : Dp.Keeps (fun q => q = W) w2 (w2.setCell ⟨W, 1, none⟩ (.slice a2 N2 c2)) := Dp.Keeps.setCell (S := fun q => q = W) (p := ⟨W, 1, none⟩) (Dp.Keeps.refl _ _) (.inr rfl) _
     have HR3 : Hid (Dp.Row (w2.setCell ⟨W, 1, none⟩ (.slice a2 N2 c2)) W 32 [v0, .slice a2 N2 c2, v2, v3, v4, v5]) := r2.set 1 (.slice a2 N2 c2)
     have HO3 : Hid (Dp.Own (w2.setCell ⟨W, 1, none⟩ (.slice a2 N2 c2)) 47 (.slice a2 N2 c2) (x1 ++ (vls ++ [Value.slice a0 n c0]))) := o2.keep kset (fun q hq e => o2.ne r2 (by decide) q hq e)
     have HK3 : Hid (Dp.Keeps (fun q => q = W ∨ v6.ownBlock = some q) wr (w2.setCell ⟨W, 1, none⟩ (.slice a2 N2 c2))) := (k12.mono (fun _ _ e => .inr e)).next kset (fun _ _ e => .inl e)
     have HZ3 : Hid (w.heap.size ≤ (w2.setCell ⟨W, 1, none⟩ (.slice a2 N2 c2)).heap.size) := by unfold Hid; have := k12.size; simp; omega
     clear o2 k2 s2 NW1 HU2 HK1 HO1 k12 r2 kset cW
     go_wp2_with fail
     clear cW2 fW2
     generalize w2.setCell ⟨W, 1, none⟩ (.slice a2 N2 c2) = w3 at *
     have hz3 := HZ3.out
     clear HZ3
     refine (lawDigit x1.length n w3 (by omega) (by omega)).mono ?_
     rintro e w3 ⟨rfl, rfl⟩
     have hdb := Dp.digit_bd x1.length n
     have HFN := Hid.mk_ (HFD.out n)
     generalize Dp.digitN x1.length n = D at *
     have k3 := (Dp.Keeps.refl (fun _ => False) w3).alloc (.cells #[.int .u8 (D : Int)] 5)
     have NW2 : Hid (∀ j u, [Value.int .u8 (D : Int)][j]? = some u → (w3.alloc (.cells #[.int .u8 (D : Int)] 5)).cell? ((⟨w3.heap.size, 0, none⟩ : Addr).add j) = some u) := fun j u h => Dp.cell_one3 w3 _ _ j u h
     have HL2 : Hid (Dp.Own (w3.alloc (.cells #[.int .u8 (D : Int)] 5)) 5 (.slice a0 n c0) (Dp.digs f n)) := by
      refine (HOl.out.keep HK3.out (fun g hg e => ?_)).keep k3 (fun _ _ e => e)
      obtain ⟨C, hC⟩ := Dp.own_u8_row HOl.out g hg
      rcases e with e | e
      ·exact Dp.row_u8_type HRW.out (by decide) g C hC e
      ·exact Dp.own_u8_type HKP.out.own (by decide) g C hC e
     have HML : Hid ((Dp.digs f n).length = n) := Dp.digs_length f n
     have HKA : Hid (Dp.Keeps (fun q => q = W ∨ v6.ownBlock = some q) wr (w3.alloc (.cells #[.int .u8 (D : Int)] 5))) := HK3.out.next k3 (fun _ _ e => e.elim)
     have HOA := Hid.mk_ (HO3.out.keep k3 (fun _ _ e => e))
     have HRA := Hid.mk_ (HR3.out.keep k3 (fun e => e))
     clear k3 HO3 HR3 HK3
     go_wp2_with (at_builtin; refine Dp.wpList_append_Own2 rfl _ _ 47 rfl 5 (.int .u8 0) 1 Tryz.underlying47 infoU83 rfl (.slice a0 n c0) (Dp.digs f n) rfl HL2.out ⟨w3.heap.size, 0, none⟩ 1 1 [.int .u8 (D : Int)] rfl rfl NW2.out (fun x hx => by simp at hx; subst hx; rfl) (by omega) (by rw [HML.out]; unfold maxLen; omega) (by rw [HML.out]; omega) ?_)
     intro vl4 w4 o4 k4 s4
     rw [← HFN.out, Dp.digs_snoc] at o4
     have e1 : X.length + (k + 1) = n + 1 := by have := HN.out; omega
     have HO4 : Hid (Dp.Own w4 5 vl4 (Dp.digs f (X.length + (k + 1)))) := by unfold Hid; rw [e1]; exact o4
     have HBN : Hid (∀ g, vl4.ownBlock = some g → w.heap.size ≤ g ∨ o = some g) := by
      intro g hg
      rcases s4.out with hh | hh
      ·rw [hh.1] at hg; exact HBl.out g hg
      ·rw [hh.1] at hg
       simp at hg
       left; omega
     have HKN : Hid (Dp.Kp w.heap.size o w4 f (.slice a2 N2 c2) x1 (vls ++ [Value.slice a0 n c0]) (X.length + (k + 1))) := by
      unfold Hid
      rw [e1]
      refine HKP.out.step HRW.out HOl.out HBl.out HKA.out HOA.out o4 k4 ?_
      rcases s4.out with hh | hh
      ·exact .inl hh.1
      ·exact .inr hh.2.2
     have HRN : Hid (Dp.Row w4 W 32 [v0, .slice a2 N2 c2, v2, v3, v4, v5]) := HRA.out.keep k4 (fun e => by
      obtain ⟨C, hC⟩ := Dp.own_u8_row HL2.out W e
      exact Dp.row_u8_type HRA.out (by decide) W C hC rfl)
     have HUN : Hid ((Value.slice a2 N2 c2).ownBlock = v1.ownBlock ∨ ∀ g, (Value.slice a2 N2 c2).ownBlock = some g → w.heap.size ≤ g) := by
      rcases HS2.out with e | e
      ·rcases HU1.out with e' | e'
       ·exact .inl (e.trans e')
       ·exact .inr (fun g hg => e' g (e ▸ hg))
      ·exact .inr e
     have HKF : Hid (Dp.Keeps (fun q => q = W ∨ v1.ownBlock = some q ∨ o = some q) w w4) := by
      refine (HKr.out.next HKA.out (fun q hq e => ?_)).next k4 (fun q hq e => ?_)
      ·rcases e with e | e
       ·exact .inl e
       ·rcases HU1.out with e' | e'
        ·exact .inr (.inl (e' ▸ e))
        ·have := e' q e; omega
      ·rcases HBl.out q e with h | h
       ·omega
       ·exact .inr (.inr h)
     have hs4 : w.heap.size ≤ w4.heap.size := by have := k4.size; simp at this; omega
     have hvl4 : (vls ++ [Value.slice a0 n c0]).length = k + 1 := by rw [List.length_append, hvl]; rfl
     clear o4 k4 s4 NW2 HL2 HKA HOA HRA HS2 HOl HBl HKr hvl HKP HRW HU1
     go_wp2
     go_roundw
     case rel => exact ⟨k + 1, _, vls ++ [Value.slice a0 n c0], by omega, by go_num, hvl4, HO4, HBN, HRN, HKN, HUN, HKF, hs4⟩
     case measure => simp [intOf]; omega
    ·obtain rfl : k = 4 := by omega
     have HFF : Hid (∃ T' u1 vls, Dp.Lists wr W T' v0 u1 v2 v3 v4 v5 (x1 ++ vls) x2 x3 x4 x5 ∧ vls.length = 4 ∧ ∀ q, Dp.listF W T' u1 v2 v3 v4 v5 q → Dp.listF W T v1 v2 v3 v4 v5 q ∨ o = some q ∨ w.heap.size ≤ q) := by
      have hkp := HKP.out
      rw [HF.out] at hkp
      obtain ⟨T', h1, h2⟩ := H.out.keptMore HRW.out HKr.out HAF.out HU1.out hkp hvl (by omega)
      exact ⟨T', v6, vls, h1, hvl, h2⟩
     clear HKP HRW HU1 HOl HBl hvl
     go_wp2
     go_end0
     exact ⟨rfl, HKr.out, HFF.out⟩
set_option maxRecDepth 100000 in
set_option maxHeartbeats 1000000 in
theorem lawChecks (l : List UInt8) (S : Int) (w : World) (N : Nat) (eb : Addr) (v0 v1 v2 v3 v4 v5 : Value) (xs : List Value) (hl : l.length ≤ 16777216) (hk : xs.length ≤ 16777216) (he : Dp.ErrAt w eb)
  (hN : Dp.Row w N 32 [v0, v1, v2, v3, v4, v5]) (hown : Dp.Own w 47 v2 xs) :
  Calls Tryz.prog 64 #[.pointer (some ⟨N, 0, none⟩), .int .i64 S, .string (Dp.str l)] w fun e w' => e = .returned (.bool true) ∧ Dp.Keeps (fun j => j = N ∨ v2.ownBlock = some j) w w' ∧
   ∃ v2' b, Dp.Row w' N 32 [v0, v1, v2', v3, v4, v5] ∧ Dp.Own w' 47 v2' (xs ++ [.slice (some ⟨b, 0, none⟩) (l.length + 2) (l.length + 2)]) ∧ w.heap.size ≤ b ∧ Dp.Row w' b 5 (List.replicate (l.length + 2) (.int .u8 251)) ∧ (v2'.ownBlock = v2.ownBlock ∨ ∀ g, v2'.ownBlock = some g → w.heap.size ≤ g) := by
 have hsz := Dp.str_size l
 have hNl := hN.lt
 go_enter Tryz.func64, Tryz.ntmps64
 go_wp2_with fail
 refine (lent_any (Dp.str l) _ (by rw [hsz]; exact hl)).mono ?_
 rintro e w1 ⟨rfl, r1, z1, k1⟩
 rw [Dp.str_data] at r1
 rw [hsz]
 have hcut : Dp.Cutting w1 (.slice (some ⟨w.heap.size, 0, none⟩) l.length (l.length + 2)) l := by
  refine ⟨some ⟨w.heap.size, 0, none⟩, l.length + 2, rfl, by omega, by unfold maxLen; omega, fun _ => ⟨w.heap.size, 0, rfl, fun j hj => ?_⟩⟩
  have h := Dp.vals_cell r1 j hj
  rw [Dp.add_zero_off] at h
  rw [Nat.zero_add]; exact h
 have he1 := he.keep k1
 have hN1 := hN.keep k1 (fun e => e)
 have ho1 := hown.keep k1 (fun _ _ e => e)
 have hgl : (l.length : Int) ≤ (l.length : Int) + 2 := by omega
 have HC := Hid.mk_ hcut
 clear hcut
 go_wp2_with fail
 refine (progCheck w1 eb S (some ⟨w.heap.size, 0, none⟩) (l.length + 2) l he1 HC.out hl).mono ?_
 rintro e w2 ⟨rfl, k2⟩
 go_wp2_with fail
 refine (refCheck S l _ hl).mono ?_
 rintro e w3 ⟨rfl, k3⟩
 generalize Dp.checked S l = C at *
 have k13 := k2.trans k3
 have hN3 := hN1.keep k13 (fun e => e)
 have ho3 := ho1.keep k13 (fun _ _ e => e)
 have r3 := r1.keep k13 (fun e => e)
 have z3 := k13.size
 go_wp2_with fail
 have hr := returned_any (Dp.str l) w3 N w.heap.size v0 v1 v2 v3 v4 v5 xs (by rw [hsz]; exact hl) hk (by rw [Dp.str_data]; exact r3) hN3 ho3
 rw [hsz] at hr
 refine hr.mono ?_
 clear hr
 rintro e w4 ⟨rfl, r4, k4, v2', hN4, ho4, hv4⟩
 go_wp2
 go_ret
 refine ⟨rfl, ((k1.trans k13).mono (fun _ _ e => e.elim)).next k4 (fun i hi e => ?_), v2', w.heap.size, hN4, ho4, Nat.le_refl _, r4, ?_⟩
 ·rcases e with e | e | e
  ·omega
  ·exact .inl e
  ·exact .inr e
 ·rcases hv4 with h | h
  ·exact .inl h
  ·exact .inr fun g hg => by have := h g hg; have := (k1.trans k13).size; omega
end Go.Proofs.YtdipojfngdceoaaGreatDoor
