/- Steps on the way: LawOpenB, LawOpenC, LawOpenD. -/
import Derived.Test.YtdipojfngdceoaaGreatDoorPack19
import Derived.Test.YtdipojfngdceoaaGreatDoorPack24
import Derived.Lib.SlBytesConst
/- What stands in memory when a machine has been opened, and the rows come back. -/
namespace Go.Proofs.YtdipojfngdceoaaGreatDoor
open Go.RowKit

namespace Dp
/-- When the first k rows have come back; since wA. -/
structure O3 (w wA : World) (W : Nat) (vW vT : Value) (words : List Int) (srcs : List (List UInt8)) (bs : List Nat) (vo : Value) (k : Nat) (v2 : Value) (wr : World) : Prop where
  made : Row wr w.heap.size 36 [vW, vT]
  l : Row wr (w.heap.size + 1) 3 (List.replicate (words.length + 1) (.int .i64 (-7)))
  s : Row wr (w.heap.size + 2) 78 (cutL srcs bs ++ [nilV])
  own : Own wr 47 vo (lentL srcs bs)
  fresh : ∀ q, vo.ownBlock = some q → w.heap.size + 3 ≤ q ∧ q < wA.heap.size
  low : ∀ b ∈ bs, w.heap.size + 3 ≤ b ∧ b < wA.heap.size
  dup : bs.Nodup
  hW : W < w.heap.size
  world : Row wr W 32 [nilV, nilV, v2, nilV, nilV, nilV]
  own2 : Own wr 47 v2 ((lentL srcs bs).take k)
  fresh2 : ∀ q, v2.ownBlock = some q → wA.heap.size ≤ q
  turned : ∀ i (h1 : i < srcs.length) (h2 : i < bs.length), i < k → Row wr bs[i] 5 (List.replicate (srcs[i].length + 2) (.int .u8 251))
  rows : ∀ i (h1 : i < srcs.length) (h2 : i < bs.length), k ≤ i → Row wr bs[i] 5 (vals (srcs[i] ++ [252, 253]))
  keeps : Keeps (fun q => q = W ∨ q ∈ bs) wA wr
theorem O3.still {w wA : World} {W : Nat} {vW vT : Value} {words : List Int} {srcs : List (List UInt8)} {bs : List Nat} {vo : Value} {k : Nat} {v2 : Value} {wr wx : World} (h : O3 w wA W vW vT words srcs bs vo k v2 wr) (kk : Keeps (fun _ => False) wr wx) : O3 w wA W vW vT words srcs bs vo k v2 wx :=
  ⟨h.made.keep kk (fun e => e), h.l.keep kk (fun e => e), h.s.keep kk (fun e => e), h.own.keep kk (fun _ _ e => e), h.fresh, h.low, h.dup, h.hW, h.world.keep kk (fun e => e), h.own2.keep kk (fun _ _ e => e), h.fresh2, fun i h1 h2 h3 => (h.turned i h1 h2 h3).keep kk (fun e => e), fun i h1 h2 h3 => (h.rows i h1 h2 h3).keep kk (fun e => e), h.keeps.next kk (fun _ _ e => e.elim)⟩
theorem O3.step {w wA : World} {W : Nat} {vW vT : Value} {words : List Int} {srcs : List (List UInt8)} {bs : List Nat} {vo : Value} {k : Nat} {v2 v2' : Value} {wr w' : World} (h : O3 w wA W vW vT words srcs bs vo k v2 wr) (hbl : bs.length = srcs.length) (hk : k < srcs.length) (hkb : k < bs.length)
    (hb : Row w' bs[k] 5 (List.replicate (srcs[k].length + 2) (.int .u8 251))) (hkp : Keeps (fun j => j = bs[k] ∨ j = W ∨ v2.ownBlock = some j) wr w') (hN : Row w' W 32 [nilV, nilV, v2', nilV, nilV, nilV])
    (ho : Own w' 47 v2' ((lentL srcs bs).take k ++ [.slice (some ⟨bs[k], 0, none⟩) (srcs[k].length + 2) (srcs[k].length + 2)])) (hf : v2'.ownBlock = v2.ownBlock ∨ ∀ q, v2'.ownBlock = some q → wr.heap.size ≤ q) :
    O3 w wA W vW vT words srcs bs vo (k + 1) v2' w' := by
  have hWl := h.hW
  have hlo := h.low _ (List.getElem_mem hkb)
  have hnk : ∀ q, q < wA.heap.size → q ≠ bs[k] → q ≠ W → ¬ (q = bs[k] ∨ q = W ∨ v2.ownBlock = some q) := by
    rintro q hq h1 h2 (e | e | e)
    · exact h1 e
    · exact h2 e
    · have := h.fresh2 q e; omega
  have hwA : w.heap.size + 3 ≤ wA.heap.size := by omega
  have hbne : ∀ i (hi : i < bs.length), i ≠ k → bs[i] ≠ bs[k] := fun i hi hne => by
    rcases Nat.lt_or_gt_of_ne hne with hh | hh
    · exact List.pairwise_iff_getElem.1 h.dup i k hi hkb hh
    · exact (List.pairwise_iff_getElem.1 h.dup k i hkb hi hh).symm
  have hbi : ∀ i (hi : i < bs.length), i ≠ k → ¬ (bs[i] = bs[k] ∨ bs[i] = W ∨ v2.ownBlock = some bs[i]) := fun i hi hne => by
    have hl := h.low _ (List.getElem_mem hi)
    exact hnk _ hl.2 (hbne i hi hne) (by omega)
  refine ⟨h.made.keep hkp (hnk _ (by omega) (by omega) (by omega)), h.l.keep hkp (hnk _ (by omega) (by omega) (by omega)), h.s.keep hkp (hnk _ (by omega) (by omega) (by omega)), h.own.keep hkp (fun q hq => ?_), h.fresh, h.low, h.dup, h.hW, hN, ?_, fun q hq => ?_, fun i h1 h2 h3 => ?_, fun i h1 h2 h3 => (h.rows i h1 h2 (by omega)).keep hkp (hbi i h2 (by omega)), ?_⟩
  · have hq2 := h.fresh q hq
    refine hnk q hq2.2 (fun e => ?_) (by omega)
    exact h.own.ne (h.rows k hk hkb (Nat.le_refl _)) (by decide) q hq e
  · have e : (lentL srcs bs).take (k + 1) = (lentL srcs bs).take k ++ [.slice (some ⟨bs[k], 0, none⟩) (srcs[k].length + 2) (srcs[k].length + 2)] := by
      have hlen := lentL_length srcs bs (by omega)
      rw [List.take_succ_eq_append_getElem (by omega)]
      have hg := lentL_get srcs bs k hk hkb
      rw [List.getElem?_eq_getElem (by omega)] at hg
      simp at hg
      rw [hg]
    rw [e]; exact ho
  · rcases hf with e | e
    · exact h.fresh2 q (e ▸ hq)
    · have h1 := e q hq
      have h2 := h.keeps.size
      omega
  · by_cases hik : i = k
    · subst hik; exact hb
    · exact (h.turned i h1 h2 (by omega)).keep hkp (hbi i h2 hik)
  · refine h.keeps.next hkp ?_
    rintro q hq (e | e | e)
    · exact .inr (e ▸ List.getElem_mem hkb)
    · exact .inl e
    · have := h.fresh2 q e; omega
/-- A source that says turned, in each of the blocks ts. -/
def turnL (ts : List Nat) : List Value := ts.map fun t => Value.slice (some ⟨t, 0, none⟩) 6 6
/-- Block t holds the bytes of a constant text. -/
def Marked (w : World) (t : Nat) : Prop := w.heap[t]? = some (.cells (vals turnedBytes).toArray 5 (6, 7))
theorem Marked.keep {S : Nat → Prop} {w w' : World} {t : Nat} (h : Marked w t) (k : Keeps S w w') (hs : ¬ S t) : Marked w' t := (k.block t (Array.getElem?_eq_some_iff.1 h).1 hs).trans h
/-- When the first places of the list of sources have been turned over; since wB. -/
structure O4 (w wB : World) (srcs : List (List UInt8)) (bs ts : List Nat) (wr : World) : Prop where
  s : Row wr (w.heap.size + 2) 78 (turnL ts ++ (cutL srcs bs ++ [nilV]).drop ts.length)
  rows : ∀ t ∈ ts, Marked wr t ∧ wB.heap.size ≤ t
  keeps : Keeps (fun q => q = w.heap.size + 2) wB wr
theorem O4.step {w wB : World} {srcs : List (List UInt8)} {bs ts : List Nat} {wr : World} (h : O4 w wB srcs bs ts wr) (hwB : w.heap.size + 2 < wB.heap.size) (hk : ts.length < (cutL srcs bs ++ [nilV]).length) :
    O4 w wB srcs bs (ts ++ [wr.heap.size]) ((wr.alloc (.cells (vals turnedBytes).toArray 5 (6, 7))).setCell ⟨w.heap.size + 2, ts.length, none⟩ (.slice (some ⟨wr.heap.size, 0, none⟩) 6 6)) := by
  have ka := (Keeps.refl (fun _ => False) wr).alloc (.cells (vals turnedBytes).toArray 5 (6, 7))
  have kset : Keeps (fun q => q = w.heap.size + 2) (wr.alloc (.cells (vals turnedBytes).toArray 5 (6, 7))) ((wr.alloc (.cells (vals turnedBytes).toArray 5 (6, 7))).setCell ⟨w.heap.size + 2, ts.length, none⟩ (.slice (some ⟨wr.heap.size, 0, none⟩) 6 6)) := Keeps.setCell (S := fun q => q = w.heap.size + 2) (p := ⟨w.heap.size + 2, ts.length, none⟩) (Keeps.refl _ _) (.inr rfl) _
  have hsz := h.keeps.size
  have s1 := h.s.keep ka (fun e => e)
  refine ⟨?_, ?_, ?_⟩
  · have hs := s1.set ts.length (.slice (some ⟨wr.heap.size, 0, none⟩) 6 6)
    have hl : (turnL ts).length = ts.length := by simp [turnL]
    rw [List.set_append_right _ _ (by omega), hl, Nat.sub_self, List.drop_eq_getElem_cons hk, List.set_cons_zero] at hs
    have e1 : turnL (ts ++ [wr.heap.size]) = turnL ts ++ [.slice (some ⟨wr.heap.size, 0, none⟩) 6 6] := by simp [turnL]
    rw [e1, List.length_append, List.length_singleton, List.append_assoc]
    exact hs
  · intro t ht
    rw [List.mem_append, List.mem_singleton] at ht
    rcases ht with ht | ht
    · obtain ⟨h1, h2⟩ := h.rows t ht
      exact ⟨(h1.keep ka (fun e => e)).keep kset (by omega), h2⟩
    · subst ht
      have hm : Marked (wr.alloc (.cells (vals turnedBytes).toArray 5 (6, 7))) wr.heap.size := heap_alloc_new wr _
      exact ⟨hm.keep kset (by omega), hsz⟩
  · exact (h.keeps.next ka (fun _ _ e => e.elim)).setCell (p := ⟨w.heap.size + 2, ts.length, none⟩) (.inr rfl) _
end Dp

end Go.Proofs.YtdipojfngdceoaaGreatDoor

/- What the caller has when a machine has been opened: all lists hold what the caller wrote. -/
namespace Go.Proofs.YtdipojfngdceoaaGreatDoor
open Go.RowKit

namespace Dp
theorem own_sliceOf {w : World} {e : TypeId} {v : Value} {xs : List Value} (h : Own w e v xs) (hx : xs.length ≤ 16777216) : SliceOf w v xs.length (fun k => xs.getD k undef) := by
  rcases h with ⟨rfl, rfl⟩ | ⟨g, tail, rfl, r, _⟩
  · exact ⟨0, 0, none, 0, rfl, by simp, fun h => absurd h (by simp), fun k hk => absurd hk (by simp)⟩
  · refine ⟨g, 0, some ⟨g, 0, none⟩, _, rfl, hx, fun _ => rfl, fun k hk => ?_⟩
    show _ = some (xs.getD k undef)
    rw [r.cell, Nat.zero_add, List.getElem?_append_left hk, List.getD_eq_getElem?_getD, List.getElem?_eq_getElem hk]
    rfl
theorem row_sliceOf {w : World} {g : Nat} {e : TypeId} {cs : List Value} (h : Row w g e cs) (n cap : Nat) (hn : n ≤ 16777216) (f : Nat → Value) (hf : ∀ k, k < n → cs[k]? = some (f k)) : SliceOf w (.slice (some ⟨g, 0, none⟩) n cap) n f :=
  ⟨g, 0, some ⟨g, 0, none⟩, cap, rfl, hn, fun _ => rfl, fun k hk => by rw [h.cell, Nat.zero_add]; exact hf k hk⟩
theorem nil_sliceOf (w : World) (f : Nat → Value) : SliceOf w nilV 0 f := ⟨0, 0, none, 0, rfl, by simp, fun h => absurd h (by simp), fun k hk => absurd hk (by omega)⟩

/-- The caller's lists behind an opening. -/
structure Opened (w : World) (W lb sb : Nat) (v0 v2 v3 v5 : Value) (n : Nat) (srcs : List (List UInt8)) (bs ts : List Nat) : Prop where
  row : Row w W 32 [v0, nilV, v2, v3, nilV, v5]
  own2 : Own w 47 v2 (lentL srcs bs)
  turned : ∀ i (h1 : i < srcs.length) (h2 : i < bs.length), Row w bs[i] 5 (List.replicate (srcs[i].length + 2) (.int .u8 251))
  own3 : Own w 22 v3 [.slice (some ⟨lb, 0, none⟩) (n + 1) (n + 1)]
  l : Row w lb 3 (List.replicate (n + 1) (.int .i64 (-7)))
  own5 : Own w 76 v5 [.slice (some ⟨sb, 0, none⟩) (srcs.length + 1) (srcs.length + 1)]
  s : Row w sb 78 (turnL ts)
  marks : ∀ t ∈ ts, Marked w t
  hbl : bs.length = srcs.length
  htl : ts.length = srcs.length + 1
theorem Opened.keep {S : Nat → Prop} {w w' : World} {W lb sb : Nat} {v0 v2 v3 v5 : Value} {n : Nat} {srcs : List (List UInt8)} {bs ts : List Nat} (h : Opened w W lb sb v0 v2 v3 v5 n srcs bs ts) (k : Keeps S w w') (hW : ¬ S W) (h2 : ∀ q, v2.ownBlock = some q → ¬ S q) (hb : ∀ q ∈ bs, ¬ S q) (h3 : ∀ q, v3.ownBlock = some q → ¬ S q) (hl : ¬ S lb) (h5 : ∀ q, v5.ownBlock = some q → ¬ S q) (hs : ¬ S sb) (ht : ∀ q ∈ ts, ¬ S q) : Opened w' W lb sb v0 v2 v3 v5 n srcs bs ts :=
  ⟨h.row.keep k hW, h.own2.keep k h2, fun i h1 h2 => (h.turned i h1 h2).keep k (hb _ (List.getElem_mem h2)), h.own3.keep k h3, h.l.keep k hl, h.own5.keep k h5, h.s.keep k hs, fun t htm => (h.marks t htm).keep k (ht t htm), h.hbl, h.htl⟩
theorem Opened.kept {w : World} {W lb sb : Nat} {v0 v2 v3 v5 : Value} {n : Nat} {srcs : List (List UInt8)} {bs ts : List Nat} (h : Opened w W lb sb v0 v2 v3 v5 n srcs bs ts) (hn : n ≤ 1048576) (hm : srcs.length ≤ 1048576) (hl : ∀ l ∈ srcs, l.length ≤ 1048576) : KeptOk w W v0 nilV v2 v3 nilV v5 := by
  have hll := lentL_length srcs bs (by rw [h.hbl]; exact Nat.le_refl _)
  have hbl := h.hbl
  have htl := h.htl
  refine ⟨h.row, ⟨0, fun _ => undef, nil_sliceOf w _, fun i hi => absurd hi (by omega)⟩, ⟨_, _, own_sliceOf h.own2 (by omega), fun i hi => ?_⟩, ⟨_, _, own_sliceOf h.own3 (by simp), fun i hi => ?_⟩, ⟨0, fun _ => undef, nil_sliceOf w _, fun i hi => absurd hi (by omega)⟩, ⟨_, _, own_sliceOf h.own5 (by simp), fun i hi => ?_⟩⟩
  · have hi1 : i < srcs.length := by omega
    have hi2 : i < bs.length := by omega
    have hg := lentL_get srcs bs i hi1 hi2
    have hlen := hl _ (List.getElem_mem hi1)
    refine ⟨srcs[i].length + 2, ?_⟩
    have e : (lentL srcs bs).getD i undef = .slice (some ⟨bs[i], 0, none⟩) (srcs[i].length + 2) (srcs[i].length + 2) := by rw [List.getD_eq_getElem?_getD, hg]; rfl
    show SliceOf w ((lentL srcs bs).getD i undef) _ _
    rw [e]
    exact row_sliceOf (h.turned i hi1 hi2) _ _ (by omega) _ (fun k hk => by rw [List.getElem?_replicate, if_pos hk])
  · obtain rfl : i = 0 := by simpa using hi
    exact ⟨n + 1, row_sliceOf h.l _ _ (by omega) _ (fun k hk => by rw [List.getElem?_replicate, if_pos hk])⟩
  · obtain rfl : i = 0 := by simpa using hi
    refine ⟨srcs.length + 1, fun k => (turnL ts).getD k undef, row_sliceOf h.s _ _ (by omega) _ (fun k hk => ?_), fun k hk => ?_⟩
    · have hk' : k < (turnL ts).length := by simp [turnL]; omega
      show _ = some ((turnL ts).getD k undef)
      rw [List.getD_eq_getElem?_getD, List.getElem?_eq_getElem hk']
      rfl
    · have hk' : k < ts.length := by omega
      refine ⟨ts[k], 0, 6, ?_, fun j hj => ?_⟩
      · show (turnL ts).getD k undef = _
        rw [List.getD_eq_getElem?_getD]; simp [turnL, hk']
      · have hm := h.marks _ (List.getElem_mem hk')
        unfold Marked at hm
        rw [add_zero_off]
        simp [World.cell?, hm, vals, hj]
theorem Marked.ne {w : World} {t b : Nat} {e : TypeId} {cs : List Value} (h : Marked w t) (k : Row w b e cs) : t ≠ b := by
  intro e1
  subst e1
  unfold Marked at h
  unfold Row at k
  rw [h] at k
  simp at k
/-- A side that has been opened, and the caller's lists, while the machines go on. -/
theorem Opened.all {w : World} {W lb sb sg scap : Nat} {v2 v3 v5 : Value} {n : Nat} {srcs : List (List UInt8)} {bs ts : List Nat} {s b p g : Nat} {G : Nat → Prop} {vs vr : Value} {m : Mach} {stail : List Value} (h : Opened w W lb sb (.slice (some ⟨sg, 0, none⟩) 1 scap) v2 v3 v5 n srcs bs ts) (hs : Side w s b p g G vs vr m) (hg : Row w sg 71 ([.pointer (some ⟨s, 0, none⟩)] ++ stail))
    (NN : Nat) (hb : NN ≤ b ∧ NN ≤ p ∧ NN ≤ g) (hW : W < NN) (hl : lb < NN) (hsb : sb < NN) (hbs : ∀ q ∈ bs, q < NN) (hn : n ≤ 1048576) (hm : srcs.length ≤ 1048576) (hll : ∀ l ∈ srcs, l.length ≤ 1048576) :
    ∀ w', Keeps (Foot b p g) w w' → KeptOk w' W (.slice (some ⟨sg, 0, none⟩) 1 scap) nilV v2 v3 nilV v5 ∧ w'.cell? ⟨sg, 0, none⟩ = some (.pointer (some ⟨s, 0, none⟩)) := by
  intro w' k
  obtain ⟨⟨c1, r1⟩, ⟨c2, r2⟩⟩ := hs.ref.rows
  have r0 := hs.prog.row
  have hlt : ∀ q, q < NN → ¬ Foot b p g q := by
    rintro q hq (e | e | e) <;> omega
  have hop := h.keep k (hlt W hW) (fun q hq => by
    rintro (e | e | e)
    · exact h.own2.ne r0 (by decide) q hq e
    · exact h.own2.ne r1 (by decide) q hq e
    · exact h.own2.ne r2 (by decide) q hq e) (fun q hq => hlt q (hbs q hq)) (fun q hq => by
    rintro (e | e | e)
    · exact h.own3.ne r0 (by decide) q hq e
    · exact h.own3.ne r1 (by decide) q hq e
    · exact h.own3.ne r2 (by decide) q hq e) (hlt lb hl) (fun q hq => by
    rintro (e | e | e)
    · exact h.own5.ne r0 (by decide) q hq e
    · exact h.own5.ne r1 (by decide) q hq e
    · exact h.own5.ne r2 (by decide) q hq e) (hlt sb hsb) (fun q hq => by
    have hmk := h.marks q hq
    rintro (e | e | e)
    · exact hmk.ne r0 e
    · exact hmk.ne r1 e
    · exact hmk.ne r2 e)
  refine ⟨hop.kept hn hm hll, ?_⟩
  have hg' := hg.keep k (by
    rintro (e | e | e)
    · exact hg.ne r0 (by decide) e
    · exact hg.ne r1 (by decide) e
    · exact hg.ne r2 (by decide) e)
  exact hg'.cell 0
end Dp

end Go.Proofs.YtdipojfngdceoaaGreatDoor

/- Small laws for the opening. -/
namespace Go.Proofs.YtdipojfngdceoaaGreatDoor
open Go.RowKit

namespace Dp
theorem Texts.still {w w' : World} {v : Value} {l : List (List UInt8)} (h : Texts w v l) (k : Keeps (fun _ => False) w w') : Texts w' v l := by
  obtain ⟨b, o, ad, cap, h1, h2, h3, h4⟩ := h
  exact ⟨b, o, ad, cap, h1, h2, fun e => ⟨(h3 e).1, Nat.lt_of_lt_of_le (h3 e).2 k.size⟩, fun j hj => ⟨(h4 j hj).1, (k.cell (p := ⟨b, o + j, none⟩) (cell_lt (h4 j hj).2) (fun e => e)).trans (h4 j hj).2⟩⟩
theorem regCells_one (l : List Int) : ∀ v ∈ regCells l, v.oneCell' = true := by
  intro v hv
  simp only [regCells, List.mem_map] at hv
  obtain ⟨x, _, rfl⟩ := hv
  rfl
end Dp
theorem infoSideP : (Tryz.prog.info? 71).map (fun i => (i.zero, i.size, i.bytes)) = some (some (.pointer none), 1, 8) := by kernel_rfl
theorem infoInts : (Tryz.prog.info? 22).map (fun i => (i.zero, i.size, i.bytes)) = some (some (.slice none 0 0), 1, 24) := by kernel_rfl
theorem infoSources : (Tryz.prog.info? 76).map (fun i => (i.zero, i.size, i.bytes)) = some (some (.slice none 0 0), 1, 24) := by kernel_rfl
theorem sizeInt1 : (Tryz.prog.info? 3).map (·.size) = some 1 := by kernel_rfl

end Go.Proofs.YtdipojfngdceoaaGreatDoor
