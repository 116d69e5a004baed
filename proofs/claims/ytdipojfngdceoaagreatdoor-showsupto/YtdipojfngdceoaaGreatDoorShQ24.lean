/- Steps on the way: LawLists, LawOpenG. -/
import Derived.Test.YtdipojfngdceoaaGreatDoorShQ23
namespace Go.Proofs.YtdipojfngdceoaaGreatDoor
open Go.RowKit
namespace Dp
def SliceIn (T : Nat → Prop) (w : World) (v : Value) (n : Nat) (f : Nat → Value) : Prop :=
 ∃ b o ad cap, v = .slice ad n cap ∧ n ≤ 16777216 ∧ (0 < n → ad = some ⟨b, o, none⟩ ∧ T b) ∧ ∀ k, k < n → w.cell? ⟨b, o + k, none⟩ = some (f k)
theorem SliceIn.of {T : Nat → Prop} {w : World} {v : Value} {n : Nat} {f : Nat → Value} (h : SliceIn T w v n f) : SliceOf w v n f := by
 obtain ⟨b, o, ad, cap, h1, h2, h3, h4⟩ := h
 exact ⟨b, o, ad, cap, h1, h2, fun hn => (h3 hn).1, h4⟩
theorem SliceIn.keep {S T T' : Nat → Prop} {w w' : World} {v : Value} {n : Nat} {f : Nat → Value} (h : SliceIn T w v n f) (k : Keeps S w w') (hS : ∀ q, T q → ¬ S q) (hT : ∀ q, T q → T' q) : SliceIn T' w' v n f := by
 obtain ⟨b, o, ad, cap, h1, h2, h3, h4⟩ := h
 refine ⟨b, o, ad, cap, h1, h2, fun hn => ⟨(h3 hn).1, hT _ (h3 hn).2⟩, fun j hj => ?_⟩
 rw [k.cell (p := ⟨b, o + j, none⟩) (cell_lt (h4 j hj)) (hS b (h3 (by omega)).2)]
 exact h4 j hj
theorem row_sliceIn {T : Nat → Prop} {w : World} {g : Nat} {e : TypeId} {cs : List Value} (h : Row w g e cs) (n cap : Nat) (hn : n ≤ 16777216) (f : Nat → Value) (hf : ∀ k, k < n → cs[k]? = some (f k)) (hT : T g) : SliceIn T w (.slice (some ⟨g, 0, none⟩) n cap) n f :=
 ⟨g, 0, some ⟨g, 0, none⟩, cap, rfl, hn, fun _ => ⟨rfl, hT⟩, fun k hk => by rw [h.cell, Nat.zero_add]; exact hf k hk⟩
structure LL (T : Nat → Prop) (w : World) (e : TypeId) (v : Value) (f : Nat → Nat → Value) (xs : List Value) : Prop where
 own : Own w e v xs
 each : ∀ i (h : i < xs.length), ∃ n, SliceIn T w xs[i] n (f i)
theorem LL.nil (T : Nat → Prop) (w : World) (e : TypeId) (f : Nat → Nat → Value) : LL T w e nilV f [] := ⟨Own.nil w e, fun i h => absurd h (by simp)⟩
theorem LL.keep {S T T' : Nat → Prop} {w w' : World} {e : TypeId} {v : Value} {f : Nat → Nat → Value} {xs : List Value} (h : LL T w e v f xs) (k : Keeps S w w') (hS : ∀ q, T q → ¬ S q) (hT : ∀ q, T q → T' q) (ho : ∀ q, v.ownBlock = some q → ¬ S q) : LL T' w' e v f xs :=
 ⟨h.own.keep k ho, fun i hi => by obtain ⟨n, hn⟩ := h.each i hi; exact ⟨n, hn.keep k hS hT⟩⟩
theorem LL.lists {T : Nat → Prop} {w : World} {e : TypeId} {v : Value} {f : Nat → Nat → Value} {xs : List Value} (h : LL T w e v f xs) (hx : xs.length ≤ 16777216) : ListsOf w v f :=
 ⟨xs.length, fun k => xs.getD k undef, own_sliceOf h.own hx, fun i hi => by
  obtain ⟨n, hn⟩ := h.each i hi
  refine ⟨n, ?_⟩
  show SliceOf w (xs.getD i undef) n _
  rw [List.getD_eq_getElem?_getD, List.getElem?_eq_getElem hi]; exact hn.of⟩
theorem LL.snoc {S T T' : Nat → Prop} {w w' : World} {e : TypeId} {v v' : Value} {f : Nat → Nat → Value} {xs ys : List Value} (h : LL T w e v f xs) (k : Keeps S w w') (hS : ∀ q, T q → ¬ S q) (hT : ∀ q, T q → T' q) (ho : Own w' e v' (xs ++ ys)) (hy : ∀ i (hi : i < ys.length), ∃ n, SliceIn T' w' ys[i] n (f (xs.length + i))) : LL T' w' e v' f (xs ++ ys) :=
 ⟨ho, fun i hi => by
  by_cases hlt : i < xs.length
  ·obtain ⟨n, hn⟩ := h.each i hlt
   rw [List.getElem_append_left hlt]
   exact ⟨n, hn.keep k hS hT⟩
  ·rw [List.getElem_append_right (by omega)]
   rw [List.length_append] at hi
   have := hy (i - xs.length) (by omega)
   rwa [show xs.length + (i - xs.length) = i by omega] at this⟩
structure LT (T : Nat → Prop) (w : World) (v : Value) (xs : List Value) : Prop where
 own : Own w 76 v xs
 each : ∀ i (h : i < xs.length), ∃ m f, SliceIn T w xs[i] m f ∧ ∀ k, k < m → ∃ b cap, f k = .slice (some ⟨b, 0, none⟩) 6 cap ∧ T b ∧ Marked w b
theorem LT.keep {S T T' : Nat → Prop} {w w' : World} {v : Value} {xs : List Value} (h : LT T w v xs) (k : Keeps S w w') (hS : ∀ q, T q → ¬ S q) (hT : ∀ q, T q → T' q) (ho : ∀ q, v.ownBlock = some q → ¬ S q) : LT T' w' v xs :=
 ⟨h.own.keep k ho, fun i hi => by
  obtain ⟨m, f, h1, h2⟩ := h.each i hi
  refine ⟨m, f, h1.keep k hS hT, fun j hj => ?_⟩
  obtain ⟨b, cap, e1, e2, e3⟩ := h2 j hj
  exact ⟨b, cap, e1, hT b e2, e3.keep k (hS b e2)⟩⟩
theorem LT.snoc {S T T' : Nat → Prop} {w w' : World} {v v' : Value} {xs : List Value} {y : Value} (h : LT T w v xs) (k : Keeps S w w') (hS : ∀ q, T q → ¬ S q) (hT : ∀ q, T q → T' q) (ho : Own w' 76 v' (xs ++ [y])) (hy : ∃ m f, SliceIn T' w' y m f ∧ ∀ k, k < m → ∃ b cap, f k = .slice (some ⟨b, 0, none⟩) 6 cap ∧ T' b ∧ Marked w' b) : LT T' w' v' (xs ++ [y]) :=
 ⟨ho, fun i hi => by
  by_cases hlt : i < xs.length
  ·obtain ⟨m, f, h1, h2⟩ := h.each i hlt
   rw [List.getElem_append_left hlt]
   refine ⟨m, f, h1.keep k hS hT, fun j hj => ?_⟩
   obtain ⟨b, cap, e1, e2, e3⟩ := h2 j hj
   exact ⟨b, cap, e1, hT b e2, e3.keep k (hS b e2)⟩
  ·rw [List.getElem_append_right (by omega)]
   rw [List.length_append, List.length_singleton] at hi
   simpa using hy⟩
theorem LT.lists {T : Nat → Prop} {w : World} {v : Value} {xs : List Value} (h : LT T w v xs) (hx : xs.length ≤ 16777216) : TurnedLists w v := by
 refine ⟨xs.length, fun k => xs.getD k undef, own_sliceOf h.own hx, fun i hi => ?_⟩
 obtain ⟨m, f, h1, h2⟩ := h.each i hi
 refine ⟨m, f, ?_, fun k hk => ?_⟩
 ·show SliceOf w (xs.getD i undef) m _
  rw [List.getD_eq_getElem?_getD, List.getElem?_eq_getElem hi]; exact h1.of
 ·obtain ⟨b, cap, e1, _, hm⟩ := h2 k hk
  refine ⟨b, 0, cap, e1, fun j hj => ?_⟩
  unfold Marked at hm
  rw [add_zero_off]
  simp [World.cell?, hm, vals, hj]
theorem own_own {w : World} {e f : TypeId} {v u : Value} {xs ys : List Value} (h : Own w e v xs) (k : Own w f u ys) (hef : e ≠ f) : ∀ q, v.ownBlock = some q → ¬ u.ownBlock = some q := by
 intro q hv hu
 rcases h with ⟨rfl, _⟩ | ⟨g, tail, rfl, hr, _⟩
 ·simp [Value.ownBlock] at hv
 ·simp [Value.ownBlock] at hv
  subst hv
  exact k.ne hr hef _ hu rfl
def outs (v1 v2 v3 v4 v5 : Value) (k : Nat) : Prop := v1.ownBlock = some k ∨ v2.ownBlock = some k ∨ v3.ownBlock = some k ∨ v4.ownBlock = some k ∨ v5.ownBlock = some k
def listF (W : Nat) (T : Nat → Prop) (v1 v2 v3 v4 v5 : Value) (k : Nat) : Prop := k = W ∨ T k ∨ outs v1 v2 v3 v4 v5 k
def dig : Nat → Nat → Value := fun i k => .int .u8 (digitN (i / 4 * 4) k : Int)
structure Lists (w : World) (W : Nat) (T : Nat → Prop) (v0 v1 v2 v3 v4 v5 : Value) (x1 x2 x3 x4 x5 : List Value) : Prop where
 row : Row w W 32 [v0, v1, v2, v3, v4, v5]
 l1 : LL T w 47 v1 dig x1
 l2 : LL T w 47 v2 (fun _ _ => .int .u8 251) x2
 l3 : LL T w 22 v3 (fun _ _ => .int .i64 (-7)) x3
 l4 : LL T w 38 v4 (fun _ k => .bool ((k : Int) % 2 == 0)) x4
 l5 : LT T w v5 x5
 tW : ¬ T W
 tO : ∀ k, outs v1 v2 v3 v4 v5 k → ¬ T k
 tlt : ∀ k, T k → k < w.heap.size
 v12 : ∀ k, v1.ownBlock = some k → ¬ v2.ownBlock = some k
 four : x1.length % 4 = 0
section
variable {w w' : World} {W : Nat} {T : Nat → Prop} {v0 v1 v2 v3 v4 v5 : Value} {x1 x2 x3 x4 x5 : List Value}
theorem Lists.notW (h : Lists w W T v0 v1 v2 v3 v4 v5 x1 x2 x3 x4 x5) : ∀ k, outs v1 v2 v3 v4 v5 k → k ≠ W := by
 rintro k (e | e | e | e | e)
 ·exact h.l1.own.ne h.row (by decide) k e
 ·exact h.l2.own.ne h.row (by decide) k e
 ·exact h.l3.own.ne h.row (by decide) k e
 ·exact h.l4.own.ne h.row (by decide) k e
 ·exact h.l5.own.ne h.row (by decide) k e
theorem Lists.outlt (h : Lists w W T v0 v1 v2 v3 v4 v5 x1 x2 x3 x4 x5) : ∀ k, outs v1 v2 v3 v4 v5 k → k < w.heap.size := by
 rintro k (e | e | e | e | e)
 ·exact h.l1.own.lt k e
 ·exact h.l2.own.lt k e
 ·exact h.l3.own.lt k e
 ·exact h.l4.own.lt k e
 ·exact h.l5.own.lt k e
theorem Lists.lt (h : Lists w W T v0 v1 v2 v3 v4 v5 x1 x2 x3 x4 x5) : ∀ k, listF W T v1 v2 v3 v4 v5 k → k < w.heap.size := by
 rintro k (e | e | e)
 ·exact e ▸ h.row.lt
 ·exact h.tlt k e
 ·exact h.outlt k e
theorem Lists.keep {S : Nat → Prop} (h : Lists w W T v0 v1 v2 v3 v4 v5 x1 x2 x3 x4 x5) (k : Keeps S w w') (hS : ∀ q, listF W T v1 v2 v3 v4 v5 q → ¬ S q) : Lists w' W T v0 v1 v2 v3 v4 v5 x1 x2 x3 x4 x5 := by
 have hT : ∀ q, T q → ¬ S q := fun q hq => hS q (.inr (.inl hq))
 have hO : ∀ q, outs v1 v2 v3 v4 v5 q → ¬ S q := fun q hq => hS q (.inr (.inr hq))
 exact ⟨h.row.keep k (hS W (.inl rfl)), h.l1.keep k hT (fun _ e => e) (fun q e => hO q (.inl e)), h.l2.keep k hT (fun _ e => e) (fun q e => hO q (.inr (.inl e))), h.l3.keep k hT (fun _ e => e) (fun q e => hO q (.inr (.inr (.inl e)))),
  h.l4.keep k hT (fun _ e => e) (fun q e => hO q (.inr (.inr (.inr (.inl e))))), h.l5.keep k hT (fun _ e => e) (fun q e => hO q (.inr (.inr (.inr (.inr e))))), h.tW, h.tO, fun q hq => Nat.lt_of_lt_of_le (h.tlt q hq) k.size, h.v12, h.four⟩
theorem Lists.still (h : Lists w W T v0 v1 v2 v3 v4 v5 x1 x2 x3 x4 x5) (k : Keeps (fun _ => False) w w') : Lists w' W T v0 v1 v2 v3 v4 v5 x1 x2 x3 x4 x5 := h.keep k (fun _ _ e => e)
theorem Lists.kept (h : Lists w W T v0 v1 v2 v3 v4 v5 x1 x2 x3 x4 x5) (h1 : x1.length ≤ 16777216) (h2 : x2.length ≤ 16777216) (h3 : x3.length ≤ 16777216) (h4 : x4.length ≤ 16777216) (h5 : x5.length ≤ 16777216) : KeptOk w W v0 v1 v2 v3 v4 v5 :=
 ⟨h.row, h.l1.lists h1, h.l2.lists h2, h.l3.lists h3, h.l4.lists h4, h.l5.lists h5⟩
theorem Lists.turned {v2' : Value} {b n : Nat} (h : Lists w W T v0 v1 v2 v3 v4 v5 x1 x2 x3 x4 x5) (k : Keeps (fun j => j = W ∨ v2.ownBlock = some j) w w') (hr : Row w' W 32 [v0, v1, v2', v3, v4, v5])
  (ho : Own w' 47 v2' (x2 ++ [.slice (some ⟨b, 0, none⟩) n n])) (hb : w.heap.size ≤ b) (hn : n ≤ 16777216) (hrb : Row w' b 5 (List.replicate n (.int .u8 251))) (hf : v2'.ownBlock = v2.ownBlock ∨ ∀ g, v2'.ownBlock = some g → w.heap.size ≤ g) :
  Lists w' W (fun k => T k ∨ k = b) v0 v1 v2' v3 v4 v5 x1 (x2 ++ [.slice (some ⟨b, 0, none⟩) n n]) x3 x4 x5 := by
 have hT : ∀ q, T q → ¬ (q = W ∨ v2.ownBlock = some q) := fun q hq e => e.elim (fun e => h.tW (e ▸ hq)) (fun e => h.tO q (.inr (.inl e)) hq)
 have hin : ∀ q, T q → T q ∨ q = b := fun q e => .inl e
 refine ⟨hr, h.l1.keep k hT hin (fun q hq e => e.elim (h.notW q (.inl hq)) (h.v12 q hq)), h.l2.snoc k hT hin ho (fun i hi => ?_), h.l3.keep k hT hin (fun q hq e => e.elim (h.notW q (.inr (.inr (.inl hq)))) (own_own h.l3.own h.l2.own (by decide) q hq)),
  h.l4.keep k hT hin (fun q hq e => e.elim (h.notW q (.inr (.inr (.inr (.inl hq))))) (own_own h.l4.own h.l2.own (by decide) q hq)), h.l5.keep k hT hin (fun q hq e => e.elim (h.notW q (.inr (.inr (.inr (.inr hq))))) (own_own h.l5.own h.l2.own (by decide) q hq)), ?_, ?_, ?_, ?_, h.four⟩
 ·obtain rfl : i = 0 := by simpa using hi
  exact ⟨n, row_sliceIn hrb n n hn _ (fun k hk => by rw [List.getElem?_replicate, if_pos hk]) (.inr rfl)⟩
 ·rintro (e | e)
  ·exact h.tW e
  ·have := h.row.lt; omega
 ·intro q hq e
  have hnew : outs v1 v2 v3 v4 v5 q ∨ v2'.ownBlock = some q := by
   rcases hq with e | e | e | e | e
   ·exact .inl (.inl e)
   ·exact .inr e
   ·exact .inl (.inr (.inr (.inl e)))
   ·exact .inl (.inr (.inr (.inr (.inl e))))
   ·exact .inl (.inr (.inr (.inr (.inr e))))
  rcases hnew with ho1 | hv
  ·rcases e with e | e
   ·exact h.tO q ho1 e
   ·have := h.outlt q ho1; omega
  ·rcases e with e | e
   ·rcases hf with hf | hf
    ·rw [hf] at hv; exact h.tO q (.inr (.inl hv)) e
    ·have := hf q hv; have := h.tlt q e; omega
   ·exact ho.ne hrb (by decide) q hv e
 ·rintro q (e | e)
  ·exact Nat.lt_of_lt_of_le (h.tlt q e) k.size
  ·exact e ▸ hrb.lt
 ·intro q h1 h2
  rcases hf with hf | hf
  ·rw [hf] at h2; exact h.v12 q h1 h2
  ·have := hf q h2; have := h.l1.own.lt q h1; omega
end
end Dp
namespace Dp
structure O3G (w wA : World) (W : Nat) (u0 u1 u2 u3 u4 u5 : Value) (y2 : List Value) (vW vT : Value) (words : List Int) (srcs : List (List UInt8)) (bs : List Nat) (vo : Value) (k : Nat) (v2 : Value) (wr : World) : Prop where
 made : Row wr w.heap.size 36 [vW, vT]
 l : Row wr (w.heap.size + 1) 3 (List.replicate (words.length + 1) (.int .i64 (-7)))
 s : Row wr (w.heap.size + 2) 78 (cutL srcs bs ++ [nilV])
 own : Own wr 47 vo (lentL srcs bs)
 fresh : ∀ q, vo.ownBlock = some q → w.heap.size + 3 ≤ q ∧ q < wA.heap.size
 low : ∀ b ∈ bs, w.heap.size + 3 ≤ b ∧ b < wA.heap.size
 dup : bs.Nodup
 hW : W < w.heap.size
 world : Row wr W 32 [u0, u1, v2, u3, u4, u5]
 own2 : Own wr 47 v2 (y2 ++ (lentL srcs bs).take k)
 fresh2 : ∀ q, v2.ownBlock = some q → wA.heap.size ≤ q ∨ u2.ownBlock = some q
 old2 : ∀ q, u2.ownBlock = some q → q < w.heap.size
 turned : ∀ i (h1 : i < srcs.length) (h2 : i < bs.length), i < k → Row wr bs[i] 5 (List.replicate (srcs[i].length + 2) (.int .u8 251))
 rows : ∀ i (h1 : i < srcs.length) (h2 : i < bs.length), k ≤ i → Row wr bs[i] 5 (vals (srcs[i] ++ [252, 253]))
 keeps : Keeps (fun q => q = W ∨ q ∈ bs ∨ u2.ownBlock = some q) wA wr
section
variable {w wA : World} {W : Nat} {u0 u1 u2 u3 u4 u5 : Value} {y2 : List Value} {vW vT : Value} {words : List Int} {srcs : List (List UInt8)} {bs : List Nat} {vo : Value} {k : Nat} {v2 v2' : Value} {wr wx w' : World}
theorem O3G.still (h : O3G w wA W u0 u1 u2 u3 u4 u5 y2 vW vT words srcs bs vo k v2 wr) (kk : Keeps (fun _ => False) wr wx) : O3G w wA W u0 u1 u2 u3 u4 u5 y2 vW vT words srcs bs vo k v2 wx :=
 ⟨h.made.keep kk (fun e => e), h.l.keep kk (fun e => e), h.s.keep kk (fun e => e), h.own.keep kk (fun _ _ e => e), h.fresh, h.low, h.dup, h.hW, h.world.keep kk (fun e => e), h.own2.keep kk (fun _ _ e => e), h.fresh2, h.old2, fun i h1 h2 h3 => (h.turned i h1 h2 h3).keep kk (fun e => e), fun i h1 h2 h3 => (h.rows i h1 h2 h3).keep kk (fun e => e), h.keeps.next kk (fun _ _ e => e.elim)⟩
theorem O3G.step (h : O3G w wA W u0 u1 u2 u3 u4 u5 y2 vW vT words srcs bs vo k v2 wr) (hbl : bs.length = srcs.length) (hk : k < srcs.length) (hkb : k < bs.length)
  (hb : Row w' bs[k] 5 (List.replicate (srcs[k].length + 2) (.int .u8 251))) (hkp : Keeps (fun j => j = bs[k] ∨ j = W ∨ v2.ownBlock = some j) wr w') (hN : Row w' W 32 [u0, u1, v2', u3, u4, u5])
  (ho : Own w' 47 v2' (y2 ++ (lentL srcs bs).take k ++ [.slice (some ⟨bs[k], 0, none⟩) (srcs[k].length + 2) (srcs[k].length + 2)])) (hf : v2'.ownBlock = v2.ownBlock ∨ ∀ q, v2'.ownBlock = some q → wr.heap.size ≤ q) :
  O3G w wA W u0 u1 u2 u3 u4 u5 y2 vW vT words srcs bs vo (k + 1) v2' w' := by
 have hWl := h.hW
 have hlo := h.low _ (List.getElem_mem hkb)
 have hnk : ∀ q, w.heap.size ≤ q → q < wA.heap.size → q ≠ bs[k] → ¬ (q = bs[k] ∨ q = W ∨ v2.ownBlock = some q) := by
  rintro q hq0 hq h1 (e | e | e)
  ·exact h1 e
  ·omega
  ·rcases h.fresh2 q e with e' | e'
   ·omega
   ·have := h.old2 q e'; omega
 have hwA : w.heap.size + 3 ≤ wA.heap.size := by omega
 have hbne : ∀ i (hi : i < bs.length), i ≠ k → bs[i] ≠ bs[k] := fun i hi hne => by
  rcases Nat.lt_or_gt_of_ne hne with hh | hh
  ·exact List.pairwise_iff_getElem.1 h.dup i k hi hkb hh
  ·exact (List.pairwise_iff_getElem.1 h.dup k i hkb hi hh).symm
 have hbi : ∀ i (hi : i < bs.length), i ≠ k → ¬ (bs[i] = bs[k] ∨ bs[i] = W ∨ v2.ownBlock = some bs[i]) := fun i hi hne => by
  have hl := h.low _ (List.getElem_mem hi)
  exact hnk _ (by omega) hl.2 (hbne i hi hne)
 refine ⟨h.made.keep hkp (hnk _ (by omega) (by omega) (by omega)), h.l.keep hkp (hnk _ (by omega) (by omega) (by omega)), h.s.keep hkp (hnk _ (by omega) (by omega) (by omega)), h.own.keep hkp (fun q hq => ?_), h.fresh, h.low, h.dup, h.hW, hN, ?_, fun q hq => ?_, h.old2, fun i h1 h2 h3 => ?_, fun i h1 h2 h3 => (h.rows i h1 h2 (by omega)).keep hkp (hbi i h2 (by omega)), ?_⟩
 ·have hq2 := h.fresh q hq
  refine hnk q (by omega) hq2.2 (fun e => ?_)
  exact h.own.ne (h.rows k hk hkb (Nat.le_refl _)) (by decide) q hq e
 ·have e : (lentL srcs bs).take (k + 1) = (lentL srcs bs).take k ++ [.slice (some ⟨bs[k], 0, none⟩) (srcs[k].length + 2) (srcs[k].length + 2)] := by
   have hlen := lentL_length srcs bs (by omega)
   rw [List.take_succ_eq_append_getElem (by omega)]
   have hg := lentL_get srcs bs k hk hkb
   rw [List.getElem?_eq_getElem (by omega)] at hg
   simp at hg
   rw [hg]
  rw [e, ← List.append_assoc]; exact ho
 ·rcases hf with e | e
  ·exact h.fresh2 q (e ▸ hq)
  ·have h1 := e q hq
   have h2 := h.keeps.size
   exact .inl (by omega)
 ·by_cases hik : i = k
  ·subst hik; exact hb
  ·exact (h.turned i h1 h2 (by omega)).keep hkp (hbi i h2 hik)
 ·refine h.keeps.next hkp ?_
  rintro q hq (e | e | e)
  ·exact .inr (.inl (e ▸ List.getElem_mem hkb))
  ·exact .inl e
  ·rcases h.fresh2 q e with e' | e'
   ·omega
   ·exact .inr (.inr e')
end
structure OpenedG (w : World) (W lb sb : Nat) (v0 u1 v2 v3 u4 v5 : Value) (y2 y3 y5 : List Value) (n : Nat) (srcs : List (List UInt8)) (bs ts : List Nat) : Prop where
 row : Row w W 32 [v0, u1, v2, v3, u4, v5]
 own2 : Own w 47 v2 (y2 ++ lentL srcs bs)
 turned : ∀ i (h1 : i < srcs.length) (h2 : i < bs.length), Row w bs[i] 5 (List.replicate (srcs[i].length + 2) (.int .u8 251))
 own3 : Own w 22 v3 (y3 ++ [.slice (some ⟨lb, 0, none⟩) (n + 1) (n + 1)])
 l : Row w lb 3 (List.replicate (n + 1) (.int .i64 (-7)))
 own5 : Own w 76 v5 (y5 ++ [.slice (some ⟨sb, 0, none⟩) (srcs.length + 1) (srcs.length + 1)])
 s : Row w sb 78 (turnL ts)
 marks : ∀ t ∈ ts, Marked w t
 hbl : bs.length = srcs.length
 htl : ts.length = srcs.length + 1
theorem OpenedG.keep {S : Nat → Prop} {w w' : World} {W lb sb : Nat} {v0 u1 v2 v3 u4 v5 : Value} {y2 y3 y5 : List Value} {n : Nat} {srcs : List (List UInt8)} {bs ts : List Nat} (h : OpenedG w W lb sb v0 u1 v2 v3 u4 v5 y2 y3 y5 n srcs bs ts) (k : Keeps S w w') (hW : ¬ S W) (h2 : ∀ q, v2.ownBlock = some q → ¬ S q) (hb : ∀ q ∈ bs, ¬ S q) (h3 : ∀ q, v3.ownBlock = some q → ¬ S q) (hl : ¬ S lb) (h5 : ∀ q, v5.ownBlock = some q → ¬ S q) (hs : ¬ S sb) (ht : ∀ q ∈ ts, ¬ S q) : OpenedG w' W lb sb v0 u1 v2 v3 u4 v5 y2 y3 y5 n srcs bs ts :=
 ⟨h.row.keep k hW, h.own2.keep k h2, fun i h1 h2 => (h.turned i h1 h2).keep k (hb _ (List.getElem_mem h2)), h.own3.keep k h3, h.l.keep k hl, h.own5.keep k h5, h.s.keep k hs, fun t htm => (h.marks t htm).keep k (ht t htm), h.hbl, h.htl⟩
structure OpenG (w w' : World) (W : Nat) (u0 u1 u2 u3 u4 u5 : Value) (y2 y3 y5 : List Value) (n : Nat) (srcs : List (List UInt8)) (v0 v2 v3 v5 : Value) (bs ts : List Nat) (NN M6 : Nat) : Prop where
 op : OpenedG w' W (w.heap.size + 1) (w.heap.size + 2) v0 u1 v2 v3 u4 v5 y2 y3 y5 n srcs bs ts
 bsl : ∀ q ∈ bs, w.heap.size + 3 ≤ q ∧ q < NN
 tsl : ∀ t ∈ ts, M6 ≤ t
 f2 : ∀ q, v2.ownBlock = some q → M6 ≤ q ∨ u2.ownBlock = some q
 f3 : ∀ q, v3.ownBlock = some q → M6 ≤ q ∨ u3.ownBlock = some q
 f5 : ∀ q, v5.ownBlock = some q → M6 ≤ q ∨ u5.ownBlock = some q
 nn : w.heap.size + 2 < NN ∧ NN ≤ M6
 keeps : Keeps (fun q => q = W ∨ u2.ownBlock = some q ∨ u3.ownBlock = some q ∨ u5.ownBlock = some q ∨ u0.ownBlock = some q) w w'
def MadeG (w' : World) (u0 v0 : Value) (y0 : List Value) (NN M6 s b p g : Nat) (G : Nat → Prop) (vs vr : Value) (m : Mach) : Prop :=
 Side w' s b p g G vs vr m ∧ Own w' 71 v0 (y0 ++ [.pointer (some ⟨s, 0, none⟩)]) ∧ (∀ q, v0.ownBlock = some q → M6 ≤ q ∨ u0.ownBlock = some q) ∧ M6 ≤ s ∧ (∀ q, q = b ∨ q = p ∨ q = g ∨ G q ∨ vr.ownBlock = some q → NN ≤ q ∧ q < M6)
end Dp
end Go.Proofs.YtdipojfngdceoaaGreatDoor
