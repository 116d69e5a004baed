/- Steps on the way: LawOpenG. -/
import Derived.Test.YtdipojfngdceoaaGreatDoorShP26
/- What stands in memory while a machine is opened in a world that is not new. -/
namespace Go.Proofs.YtdipojfngdceoaaGreatDoor
open Go.RowKit

namespace Dp
/-- When the first k rows have come back; since wA. -/
structure O3G (w wA : World) (W : Nat) (u0 u1 u2 u3 u4 u5 : Value) (y2 : List Value) (vW vT : Value) (words : List Int) (srcs : List (List UInt8)) (bs : List Nat) (vo : Value) (k : Nat) (v2 : Value) (wr : World) : Prop where
 made : Row wr w.heap.size 36 [vW, vT]
 l : Row wr (w.heap.size + 1) 3 (List.replicate (words.length + 1) (.int .i64 (-7)))
 s : Row wr (w.heap.size + 2) 78 (cutL srcs bs ++ [nilV])
 own : Own wr 47 vo (lentL srcs bs)
 fresh : ∀ q, vo.ownBlock = some q → w.heap.size + 3 ≤ q ∧ q < wA.heap.size
 low : ∀ b ∈ bs, w.heap.size + 3 ≤ b ∧ b < wA.heap.size
 dup : bs.Nodup
 hW : W < w.heap.size
 world : Row wr W 32 [u0, u1, v2, u3, u4, u5]
 own2 : Own wr 47 v2 (y2 ++ (lentL srcs bs).take k)
 fresh2 : ∀ q, v2.ownBlock = some q → wA.heap.size ≤ q ∨ u2.ownBlock = some q
 old2 : ∀ q, u2.ownBlock = some q → q < w.heap.size
 turned : ∀ i (h1 : i < srcs.length) (h2 : i < bs.length), i < k → Row wr bs[i] 5 (List.replicate (srcs[i].length + 2) (.int .u8 251))
 rows : ∀ i (h1 : i < srcs.length) (h2 : i < bs.length), k ≤ i → Row wr bs[i] 5 (vals (srcs[i] ++ [252, 253]))
 keeps : Keeps (fun q => q = W ∨ q ∈ bs ∨ u2.ownBlock = some q) wA wr
section
variable {w wA : World} {W : Nat} {u0 u1 u2 u3 u4 u5 : Value} {y2 : List Value} {vW vT : Value} {words : List Int} {srcs : List (List UInt8)} {bs : List Nat} {vo : Value} {k : Nat} {v2 v2' : Value} {wr wx w' : World}
theorem O3G.still (h : O3G w wA W u0 u1 u2 u3 u4 u5 y2 vW vT words srcs bs vo k v2 wr) (kk : Keeps (fun _ => False) wr wx) : O3G w wA W u0 u1 u2 u3 u4 u5 y2 vW vT words srcs bs vo k v2 wx :=
 ⟨h.made.keep kk (fun e => e), h.l.keep kk (fun e => e), h.s.keep kk (fun e => e), h.own.keep kk (fun _ _ e => e), h.fresh, h.low, h.dup, h.hW, h.world.keep kk (fun e => e), h.own2.keep kk (fun _ _ e => e), h.fresh2, h.old2, fun i h1 h2 h3 => (h.turned i h1 h2 h3).keep kk (fun e => e), fun i h1 h2 h3 => (h.rows i h1 h2 h3).keep kk (fun e => e), h.keeps.next kk (fun _ _ e => e.elim)⟩
theorem O3G.step (h : O3G w wA W u0 u1 u2 u3 u4 u5 y2 vW vT words srcs bs vo k v2 wr) (hbl : bs.length = srcs.length) (hk : k < srcs.length) (hkb : k < bs.length)
  (hb : Row w' bs[k] 5 (List.replicate (srcs[k].length + 2) (.int .u8 251))) (hkp : Keeps (fun j => j = bs[k] ∨ j = W ∨ v2.ownBlock = some j) wr w') (hN : Row w' W 32 [u0, u1, v2', u3, u4, u5])
  (ho : Own w' 47 v2' (y2 ++ (lentL srcs bs).take k ++ [.slice (some ⟨bs[k], 0, none⟩) (srcs[k].length + 2) (srcs[k].length + 2)])) (hf : v2'.ownBlock = v2.ownBlock ∨ ∀ q, v2'.ownBlock = some q → wr.heap.size ≤ q) :
  O3G w wA W u0 u1 u2 u3 u4 u5 y2 vW vT words srcs bs vo (k + 1) v2' w' := by
 have hWl := h.hW
 have hlo := h.low _ (List.getElem_mem hkb)
 have hnk : ∀ q, w.heap.size ≤ q → q < wA.heap.size → q ≠ bs[k] → ¬ (q = bs[k] ∨ q = W ∨ v2.ownBlock = some q) := by
  rintro q hq0 hq h1 (e | e | e)
  ·exact h1 e
  ·omega
  ·rcases h.fresh2 q e with e' | e'
   ·omega
   ·have := h.old2 q e'; omega
 have hwA : w.heap.size + 3 ≤ wA.heap.size := by omega
 have hbne : ∀ i (hi : i < bs.length), i ≠ k → bs[i] ≠ bs[k] := fun i hi hne => by
  rcases Nat.lt_or_gt_of_ne hne with hh | hh
  ·exact List.pairwise_iff_getElem.1 h.dup i k hi hkb hh
  ·exact (List.pairwise_iff_getElem.1 h.dup k i hkb hi hh).symm
 have hbi : ∀ i (hi : i < bs.length), i ≠ k → ¬ (bs[i] = bs[k] ∨ bs[i] = W ∨ v2.ownBlock = some bs[i]) := fun i hi hne => by
  have hl := h.low _ (List.getElem_mem hi)
  exact hnk _ (by omega) hl.2 (hbne i hi hne)
 refine ⟨h.made.keep hkp (hnk _ (by omega) (by omega) (by omega)), h.l.keep hkp (hnk _ (by omega) (by omega) (by omega)), h.s.keep hkp (hnk _ (by omega) (by omega) (by omega)), h.own.keep hkp (fun q hq => ?_), h.fresh, h.low, h.dup, h.hW, hN, ?_, fun q hq => ?_, h.old2, fun i h1 h2 h3 => ?_, fun i h1 h2 h3 => (h.rows i h1 h2 (by omega)).keep hkp (hbi i h2 (by omega)), ?_⟩
 ·have hq2 := h.fresh q hq
  refine hnk q (by omega) hq2.2 (fun e => ?_)
  exact h.own.ne (h.rows k hk hkb (Nat.le_refl _)) (by decide) q hq e
 ·have e : (lentL srcs bs).take (k + 1) = (lentL srcs bs).take k ++ [.slice (some ⟨bs[k], 0, none⟩) (srcs[k].length + 2) (srcs[k].length + 2)] := by
   have hlen := lentL_length srcs bs (by omega)
   rw [List.take_succ_eq_append_getElem (by omega)]
   have hg := lentL_get srcs bs k hk hkb
   rw [List.getElem?_eq_getElem (by omega)] at hg
   simp at hg
   rw [hg]
  rw [e, ← List.append_assoc]; exact ho
 ·rcases hf with e | e
  ·exact h.fresh2 q (e ▸ hq)
  ·have h1 := e q hq
   have h2 := h.keeps.size
   exact .inl (by omega)
 ·by_cases hik : i = k
  ·subst hik; exact hb
  ·exact (h.turned i h1 h2 (by omega)).keep hkp (hbi i h2 hik)
 ·refine h.keeps.next hkp ?_
  rintro q hq (e | e | e)
  ·exact .inr (.inl (e ▸ List.getElem_mem hkb))
  ·exact .inl e
  ·rcases h.fresh2 q e with e' | e'
   ·omega
   ·exact .inr (.inr e')
end
/-- The caller's lists behind an opening. -/
structure OpenedG (w : World) (W lb sb : Nat) (v0 u1 v2 v3 u4 v5 : Value) (y2 y3 y5 : List Value) (n : Nat) (srcs : List (List UInt8)) (bs ts : List Nat) : Prop where
 row : Row w W 32 [v0, u1, v2, v3, u4, v5]
 own2 : Own w 47 v2 (y2 ++ lentL srcs bs)
 turned : ∀ i (h1 : i < srcs.length) (h2 : i < bs.length), Row w bs[i] 5 (List.replicate (srcs[i].length + 2) (.int .u8 251))
 own3 : Own w 22 v3 (y3 ++ [.slice (some ⟨lb, 0, none⟩) (n + 1) (n + 1)])
 l : Row w lb 3 (List.replicate (n + 1) (.int .i64 (-7)))
 own5 : Own w 76 v5 (y5 ++ [.slice (some ⟨sb, 0, none⟩) (srcs.length + 1) (srcs.length + 1)])
 s : Row w sb 78 (turnL ts)
 marks : ∀ t ∈ ts, Marked w t
 hbl : bs.length = srcs.length
 htl : ts.length = srcs.length + 1
theorem OpenedG.keep {S : Nat → Prop} {w w' : World} {W lb sb : Nat} {v0 u1 v2 v3 u4 v5 : Value} {y2 y3 y5 : List Value} {n : Nat} {srcs : List (List UInt8)} {bs ts : List Nat} (h : OpenedG w W lb sb v0 u1 v2 v3 u4 v5 y2 y3 y5 n srcs bs ts) (k : Keeps S w w') (hW : ¬ S W) (h2 : ∀ q, v2.ownBlock = some q → ¬ S q) (hb : ∀ q ∈ bs, ¬ S q) (h3 : ∀ q, v3.ownBlock = some q → ¬ S q) (hl : ¬ S lb) (h5 : ∀ q, v5.ownBlock = some q → ¬ S q) (hs : ¬ S sb) (ht : ∀ q ∈ ts, ¬ S q) : OpenedG w' W lb sb v0 u1 v2 v3 u4 v5 y2 y3 y5 n srcs bs ts :=
 ⟨h.row.keep k hW, h.own2.keep k h2, fun i h1 h2 => (h.turned i h1 h2).keep k (hb _ (List.getElem_mem h2)), h.own3.keep k h3, h.l.keep k hl, h.own5.keep k h5, h.s.keep k hs, fun t htm => (h.marks t htm).keep k (ht t htm), h.hbl, h.htl⟩
/-- What an opening leaves, and where. -/
structure OpenG (w w' : World) (W : Nat) (u0 u1 u2 u3 u4 u5 : Value) (y2 y3 y5 : List Value) (n : Nat) (srcs : List (List UInt8)) (v0 v2 v3 v5 : Value) (bs ts : List Nat) (NN M6 : Nat) : Prop where
 op : OpenedG w' W (w.heap.size + 1) (w.heap.size + 2) v0 u1 v2 v3 u4 v5 y2 y3 y5 n srcs bs ts
 bsl : ∀ q ∈ bs, w.heap.size + 3 ≤ q ∧ q < NN
 tsl : ∀ t ∈ ts, M6 ≤ t
 f2 : ∀ q, v2.ownBlock = some q → M6 ≤ q ∨ u2.ownBlock = some q
 f3 : ∀ q, v3.ownBlock = some q → M6 ≤ q ∨ u3.ownBlock = some q
 f5 : ∀ q, v5.ownBlock = some q → M6 ≤ q ∨ u5.ownBlock = some q
 nn : w.heap.size + 2 < NN ∧ NN ≤ M6
 keeps : Keeps (fun q => q = W ∨ u2.ownBlock = some q ∨ u3.ownBlock = some q ∨ u5.ownBlock = some q ∨ u0.ownBlock = some q) w w'
/-- A machine has been made, and its side is booked. -/
def MadeG (w' : World) (u0 v0 : Value) (y0 : List Value) (NN M6 s b p g : Nat) (G : Nat → Prop) (vs vr : Value) (m : Mach) : Prop :=
 Side w' s b p g G vs vr m ∧ Own w' 71 v0 (y0 ++ [.pointer (some ⟨s, 0, none⟩)]) ∧ (∀ q, v0.ownBlock = some q → M6 ≤ q ∨ u0.ownBlock = some q) ∧ M6 ≤ s ∧ (∀ q, q = b ∨ q = p ∨ q = g ∨ G q ∨ vr.ownBlock = some q → NN ≤ q ∧ q < M6)
end Dp
end Go.Proofs.YtdipojfngdceoaaGreatDoor
