/- What 'Sums' does with any list of texts of not too great a bulk: it answers true, and nothing old has turned. -/
import Derived.Test.YtdipojfngdceoaaRows
import Derived.WalkKit
import Derived.WalkSpells
import Derived.WalkLawsBesides
import Derived.Deep.RegionWith
import Derived.Test.YtdipojfngdceoaaRefSum
import Derived.Test.YtdipojfngdceoaaDigSum
import Derived.Test.YtdipojfngdceoaaReturned
namespace Go.Proofs.Ytdipojfngdceoaa
open Go.RowKit Dp

namespace Dp
/-- The slice value v holds just these texts. -/
def Strs (w : World) (v : Value) (ps : List ByteArray) : Prop :=
  ∃ b o ad cap, v = .slice ad ps.length cap ∧ (ps ≠ [] → ad = some ⟨b, o, none⟩ ∧ b < w.heap.size) ∧ ∀ i (h : i < ps.length), w.cell? ⟨b, o + i, none⟩ = some (.string ps[i])

def nilS : Value := .slice none 0 0
/-- The row that 'lent' made of the j-th text, which is block B + j. -/
def lentAt (B j : Nat) (s : ByteArray) : Value := .slice (some ⟨B + j, 0, none⟩) (s.size + 2) (s.size + 2)
def cutAt (B j : Nat) (s : ByteArray) : Value := .slice (some ⟨B + j, 0, none⟩) s.size (s.size + 2)
/-- A row of n + 1 places of which the first k are filled. -/
def filled (f : Nat → ByteArray → Value) (ps : List ByteArray) (k : Nat) : List Value := (ps.take k).mapIdx f ++ List.replicate (ps.length + 1 - k) nilS
/-- All texts, one behind the other. -/
def joined (ps : List ByteArray) : ByteArray := ⟨(ps.map (fun s => s.data.toList)).flatten.toArray⟩

theorem filled_zero (f : Nat → ByteArray → Value) (ps : List ByteArray) : filled f ps 0 = List.replicate (ps.length + 1) nilS := by simp [filled]
theorem filled_length (f : Nat → ByteArray → Value) (ps : List ByteArray) (k : Nat) (hk : k ≤ ps.length) : (filled f ps k).length = ps.length + 1 := by simp [filled]; omega
theorem filled_step (f : Nat → ByteArray → Value) (ps : List ByteArray) (k : Nat) (hk : k < ps.length) : (filled f ps k).set k (f k ps[k]) = filled f ps (k + 1) := by
  have hl : ((ps.take k).mapIdx f).length = k := by simp; omega
  unfold filled
  rw [List.set_append_right _ _ (by omega), hl, Nat.sub_self, show ps.length + 1 - k = (ps.length + 1 - (k + 1)) + 1 by omega, List.replicate_succ, List.set_cons_zero, List.take_succ_eq_append_getElem hk, List.mapIdx_append]
  simp [show min k ps.length = k by omega]
theorem filled_get (f : Nat → ByteArray → Value) (ps : List ByteArray) (k j : Nat) (hj : j < k) (hk : k ≤ ps.length) : (filled f ps k)[j]? = some (f j (ps[j]'(by omega))) := by
  unfold filled
  rw [List.getElem?_append_left (by simp; omega)]
  simp [hj, show j < ps.length by omega]
theorem filled_rest (f : Nat → ByteArray → Value) (ps : List ByteArray) (k j : Nat) (hj : k ≤ j) (hk : j ≤ ps.length) : (filled f ps k)[j]? = some nilS := by
  have hl : ((ps.take k).mapIdx f).length = k := by simp; omega
  unfold filled
  rw [List.getElem?_append_right (by omega), hl, List.getElem?_replicate, if_pos (by omega)]
end Dp

theorem infoBytess : (Try.prog.info? 31).map (fun i => (i.zero, i.size, i.bytes)) = some (some nilS, 1, 24) := by kernel_rfl

namespace Dp
theorem joined_append (a b : List ByteArray) : joined (a ++ b) = joined a ++ joined b := by
  apply ByteArray.ext
  simp [joined]
theorem joined_one (a : ByteArray) : joined [a] = a := by
  apply ByteArray.ext
  simp [joined]
theorem joined_size_take (ps : List ByteArray) (k : Nat) : (joined (ps.take k)).size ≤ (joined ps).size := by
  have h2 : joined ps = joined (ps.take k) ++ joined (ps.drop k) := by rw [← joined_append, List.take_append_drop]
  rw [h2, ByteArray.size_append]
  omega
theorem joined_snoc (ps : List ByteArray) (k : Nat) (h : k < ps.length) : joined (ps.take (k + 1)) = joined (ps.take k) ++ ps[k] := by
  rw [List.take_succ_eq_append_getElem h, joined_append, joined_one]
theorem size_le_joined (ps : List ByteArray) (k : Nat) (h : k < ps.length) : (ps[k]).size ≤ (joined ps).size := by
  have h1 := joined_size_take ps (k + 1)
  rw [joined_snoc ps k h, ByteArray.size_append] at h1
  omega

/-- What stands in memory when the first k texts have been lent. -/
structure Inv1 (w : World) (ps : List ByteArray) (k : Nat) (wr : World) : Prop where
  world : Row wr w.heap.size 30 [nilS, nilS, nilS, nilS, nilS, nilS]
  l : Row wr (w.heap.size + 1) 31 (filled (lentAt (w.heap.size + 2)) ps k)
  rows : ∀ j (_ : j < k) (h : j < ps.length), Row wr (w.heap.size + 2 + j) 5 (vals (ps[j].data.toList ++ [252, 253]))
  size : wr.heap.size = w.heap.size + 2 + k
  keeps : Keeps (fun _ => False) w wr

theorem Inv1.step {w : World} {ps : List ByteArray} {k : Nat} {wr w' : World} (h : Inv1 w ps k wr) (hk : k < ps.length) (hr : Row w' wr.heap.size 5 (vals (ps[k].data.toList ++ [252, 253]))) (hz : w'.heap.size = wr.heap.size + 1) (hkp : Keeps (fun _ => False) wr w') :
    Inv1 w ps (k + 1) (w'.setCell ⟨w.heap.size + 1, k, none⟩ (lentAt (w.heap.size + 2) k ps[k])) := by
  have hs := h.size
  refine ⟨?_, ?_, ?_, ?_, ?_⟩
  · exact (h.world.keep hkp (fun e => e)).setOther _ _ (show w.heap.size ≠ w.heap.size + 1 by omega)
  · have := (h.l.keep hkp (fun e => e)).set k (lentAt (w.heap.size + 2) k ps[k])
    rwa [filled_step _ _ _ hk] at this
  · intro j hj hj'
    refine Row.setOther ?_ _ _ (show w.heap.size + 2 + j ≠ w.heap.size + 1 by omega)
    by_cases e : j = k
    · subst e; rw [← hs]; exact hr
    · exact (h.rows j (by omega) hj').keep hkp (fun e => e)
  · rw [World.size_setCell]; omega
  · exact (h.keeps.trans hkp).setCell (.inl (show w.heap.size ≤ w.heap.size + 1 by omega)) _
/-- What stands in memory when all texts have been lent, and the first k rows cut. -/
structure Inv2 (w : World) (ps : List ByteArray) (k : Nat) (wr : World) : Prop where
  world : Row wr w.heap.size 30 [nilS, nilS, nilS, nilS, nilS, nilS]
  l : Row wr (w.heap.size + 1) 31 (filled (lentAt (w.heap.size + 2)) ps ps.length)
  rows : ∀ j (h : j < ps.length), Row wr (w.heap.size + 2 + j) 5 (vals (ps[j].data.toList ++ [252, 253]))
  cuts : Row wr (w.heap.size + 2 + ps.length) 31 (filled (cutAt (w.heap.size + 2)) ps k)
  keeps : Keeps (fun _ => False) w wr

theorem Inv1.grow {w : World} {ps : List ByteArray} {wr w' : World} (h : Inv1 w ps ps.length wr) (r : Row w' (w.heap.size + 2 + ps.length) 31 (filled (cutAt (w.heap.size + 2)) ps 0)) (hkp : Keeps (fun _ => False) wr w') : Inv2 w ps 0 w' :=
  ⟨h.world.keep hkp (fun e => e), h.l.keep hkp (fun e => e), fun j hj => (h.rows j hj hj).keep hkp (fun e => e), r, h.keeps.trans hkp⟩

theorem Inv2.step {w : World} {ps : List ByteArray} {k : Nat} {wr : World} (h : Inv2 w ps k wr) (hk : k < ps.length) :
    Inv2 w ps (k + 1) (wr.setCell ⟨w.heap.size + 2 + ps.length, k, none⟩ (cutAt (w.heap.size + 2) k ps[k])).drew := by
  refine ⟨h.world.setOther _ _ (show w.heap.size ≠ w.heap.size + 2 + ps.length by omega), h.l.setOther _ _ (show w.heap.size + 1 ≠ w.heap.size + 2 + ps.length by omega), fun j hj => (h.rows j hj).setOther _ _ (show w.heap.size + 2 + j ≠ w.heap.size + 2 + ps.length by omega), ?_, ?_⟩
  · have := h.cuts.set k (cutAt (w.heap.size + 2) k ps[k])
    rw [filled_step _ _ _ hk] at this
    exact this
  · exact (h.keeps.setCell (.inl (show w.heap.size ≤ w.heap.size + 2 + ps.length by omega)) _).drew
theorem Inv2.parts {w : World} {ps : List ByteArray} {wr : World} (h : Inv2 w ps ps.length wr) (hn : ps.length ≤ 1048576) (hsum : (joined ps).size ≤ 1048576) (ad : Option Addr) (had : ps ≠ [] → ad = some ⟨w.heap.size + 2 + ps.length, 0, none⟩) (cap : Nat) :
    Parts wr (.slice ad ps.length cap) (ps.map fun s => s.data.toList) := by
  refine ⟨w.heap.size + 2 + ps.length, 0, ad, cap, by simp, by simp [maxLen]; omega, fun hne => had (by intro e; simp [e] at hne), ?_⟩
  intro i hi
  have hi' : i < ps.length := by simpa using hi
  have hsz := size_le_joined ps i hi'
  refine ⟨cutAt (w.heap.size + 2) i ps[i], by rw [Nat.zero_add, h.cuts.cell, filled_get _ _ _ _ hi' (Nat.le_refl _)], w.heap.size + 2 + i, 0, _, _, by simp [cutAt]; rfl, by simp [maxLen]; omega, fun _ => rfl, ?_⟩
  intro j hj
  have := vals_cell (h.rows i hi') j (by simpa using hj)
  rw [add_zero_off] at this
  simpa using this
/-- What stands in memory when the first k rows have come back. -/
structure Inv3 (w : World) (ps : List ByteArray) (k : Nat) (v2 : Value) (xs : List Value) (wr : World) : Prop where
  world : Row wr w.heap.size 30 [nilS, nilS, v2, nilS, nilS, nilS]
  own : Own wr 31 v2 xs
  len : xs.length = k
  fresh : ∀ g, v2.ownBlock = some g → w.heap.size + 2 + ps.length < g
  l : Row wr (w.heap.size + 1) 31 (filled (lentAt (w.heap.size + 2)) ps ps.length)
  rows : ∀ j (_ : k ≤ j) (h : j < ps.length), Row wr (w.heap.size + 2 + j) 5 (vals (ps[j].data.toList ++ [252, 253]))
  cuts : Row wr (w.heap.size + 2 + ps.length) 31 (filled (cutAt (w.heap.size + 2)) ps ps.length)
  keeps : Keeps (fun _ => False) w wr

theorem Inv2.start {w : World} {ps : List ByteArray} {wr : World} (h : Inv2 w ps ps.length wr) : Inv3 w ps 0 nilS [] wr :=
  ⟨h.world, Own.nil _ _, rfl, fun g hg => by simp [nilS, Value.ownBlock] at hg, h.l, fun j _ hj => h.rows j hj, h.cuts, h.keeps⟩
theorem Inv3.drew {w : World} {ps : List ByteArray} {k : Nat} {v2 : Value} {xs : List Value} {wr : World} (h : Inv3 w ps k v2 xs wr) : Inv3 w ps k v2 xs wr.drew :=
  ⟨h.world, h.own, h.len, h.fresh, h.l, h.rows, h.cuts, h.keeps.drew⟩

theorem Inv3.same {w : World} {ps : List ByteArray} {k : Nat} {v2 : Value} {xs : List Value} {wr wx : World} (h : Inv3 w ps k v2 xs wr) (e1 : wx.heap = wr.heap) (e2 : wx.os = wr.os) (e3 : wx.tape = wr.tape) (e4 : wx.output = wr.output) : Inv3 w ps k v2 xs wx := by
  have hk : Keeps (fun _ => False) wr wx := ⟨e2, e3, e4, by rw [e1]; exact Nat.le_refl _, fun k _ _ => by rw [e1]⟩
  exact ⟨h.world.keep hk (fun e => e), h.own.keep hk (fun _ _ e => e), h.len, h.fresh, h.l.keep hk (fun e => e), fun j hj hj' => (h.rows j hj hj').keep hk (fun e => e), h.cuts.keep hk (fun e => e), h.keeps.trans hk⟩

theorem Inv3.step {w : World} {ps : List ByteArray} {k : Nat} {v2 v2' : Value} {xs : List Value} {wr w' : World} (h : Inv3 w ps k v2 xs wr) (x : Value)
    (hkp : Keeps (fun j => j = w.heap.size + 2 + k ∨ j = w.heap.size ∨ v2.ownBlock = some j) wr w') (hN : Row w' w.heap.size 30 [nilS, nilS, v2', nilS, nilS, nilS]) (hown : Own w' 31 v2' (xs ++ [x])) (hfr : v2'.ownBlock = v2.ownBlock ∨ ∀ g, v2'.ownBlock = some g → wr.heap.size ≤ g) (hk : k < ps.length) :
    Inv3 w ps (k + 1) v2' (xs ++ [x]) w' := by
  have hlt := h.cuts.lt
  have hf : ∀ j, j ≤ w.heap.size + 2 + ps.length → v2.ownBlock ≠ some j := fun j hj e => by have := h.fresh j e; omega
  refine ⟨hN, hown, by simp [h.len], ?_, ?_, ?_, ?_, ?_⟩
  · intro g hg
    rcases hfr with e | e
    · exact h.fresh g (e ▸ hg)
    · have := e g hg; omega
  · exact h.l.keep hkp (by rintro (e | e | e) <;> first | omega | exact hf _ (by omega) e)
  · intro j hj hj'
    exact (h.rows j (by omega) hj').keep hkp (by rintro (e | e | e) <;> first | omega | exact hf _ (by omega) e)
  · exact h.cuts.keep hkp (by rintro (e | e | e) <;> first | omega | exact hf _ (by omega) e)
  · refine h.keeps.next hkp ?_
    rintro i hi (e | e | e)
    · omega
    · omega
    · exact hf i (by omega) e
end Dp

set_option maxHeartbeats 1000000 in
theorem sums_any (v : Value) (ps : List ByteArray) (w : World) (hv : Strs w v ps) (hn : ps.length ≤ 1048576) (hsum : (joined ps).size ≤ 1048576) :
    Calls Try.prog 3 #[v] w fun e w' => e = .returned (.bool true) ∧ Below w.heap.size w w' := by
  obtain ⟨b, o, ad, cap, rfl, hne, hcells⟩ := hv
  go_enter Try.func3, Try.ntmps3
  go_wp2_with (at_make; refine wpList_make_row _ rfl _ _ 25 rfl 31 nilS 24 Try.underlying25 infoBytess rfl _ _ _ _ (ps.length + 1) rfl rfl (by omega) (by omega) (by omega) (by unfold maxLen; omega) ?_)
  intro w1 r1 z1 k1
  have inv0 : Inv1 w ps 0 w1 := by
    have z1' : w1.heap.size = w.heap.size + 2 := z1
    refine ⟨?_, by rw [filled_zero]; exact r1, fun j hj => absurd hj (by omega), z1', ((Keeps.refl _ _).alloc _).next k1 (fun _ _ h => h)⟩
    exact (Row.allocNew w 30 [nilS, nilS, nilS, nilS, nilS, nilS]).keep k1 (fun e => e)
  clear r1 z1 k1
  go_wp2
  go_loopw [5, 6] (fun s i wr => ∃ k : Nat, k ≤ ps.length ∧ i = .int .i64 k ∧ s = .string (joined (ps.take k)) ∧ Inv1 w ps k wr) (fun _ i _ => ps.length - (intOf i).toNat)
  case atStart => exact ⟨0, Nat.zero_le _, rfl, rfl, inv0⟩
  case round =>
    obtain ⟨k, hk, rfl, rfl, inv⟩ := hrel
    clear inv0
    by_cases hlt : k < ps.length
    · obtain ⟨rfl, hb⟩ := hne (by intro e; simp [e] at hlt)
      have ck : wr.cell? ⟨b, o + k, none⟩ = some (.string ps[k]) := by rw [inv.keeps.cell hb (fun e => e)]; exact hcells k hlt
      have hsz := size_le_joined ps k hlt
      have hsz2 := joined_size_take ps k
      clear hne hcells
      have iz := inv.size
      go_wp2_with fail
      refine (lent_any _ _ (by omega)).mono ?_
      rintro e w2 ⟨rfl, r2, z2, k2⟩
      have ck2 : w2.cell? ⟨b, o + k, none⟩ = some (.string ps[k]) := by rw [k2.cell (show b < wr.heap.size by omega) (fun e => e)]; exact ck
      obtain ⟨u, cl⟩ : ∃ u, w2.cell? ⟨w.heap.size + 1, k, none⟩ = some u := ⟨_, (inv.l.keep k2 (fun e => e)).cellAt k (by rw [filled_length _ _ _ hk]; omega)⟩
      have fl := (inv.l.keep k2 (fun e => e)).frozen k
      have hbN : b ≠ w.heap.size + 1 := by omega
      have INV := inv.step hlt r2 z2 k2
      have HJ : Hid (joined (ps.take (k + 1)) = joined (ps.take k) ++ ps[k]) := joined_snoc ps k hlt
      clear r2 z2 k2 ck
      go_wp2
      go_roundw
      case rel =>
        exact ⟨k + 1, by omega, by go_num, by rw [HJ.out], INV⟩
      case measure => simp [intOf]; omega
    · obtain rfl : k = ps.length := by omega
      rw [List.take_length]
      have iz := inv.size
      go_wp2_with (at_make; refine wpList_make_row _ rfl _ _ 25 rfl 31 nilS 24 Try.underlying25 infoBytess rfl _ _ _ _ (ps.length + 1) rfl rfl (by omega) (by omega) (by omega) (by unfold maxLen; omega) ?_)
      intro w2 r2 z2 k2
      have r2' : Row w2 (w.heap.size + 2 + ps.length) 31 (filled (cutAt (w.heap.size + 2)) ps 0) := by rw [filled_zero]; exact r2
      have inv2 := inv.grow r2' k2
      clear r2 z2 k2 r2' inv
      go_wp2
      go_loopw [8] (fun i wr => ∃ k : Nat, k ≤ ps.length ∧ i = .int .i64 k ∧ Inv2 w ps k wr) (fun i _ => ps.length - (intOf i).toNat)
      case atStart => exact ⟨0, Nat.zero_le _, rfl, inv2⟩
      case round =>
        obtain ⟨k, hk, rfl, inv⟩ := hrel
        clear inv2 iz
        by_cases hlt : k < ps.length
        · obtain ⟨rfl, hb⟩ := hne (by intro e; simp [e] at hlt)
          have ck : wr.cell? ⟨b, o + k, none⟩ = some (.string ps[k]) := by rw [inv.keeps.cell hb (fun e => e)]; exact hcells k hlt
          have hsz := size_le_joined ps k hlt
          have cl : wr.cell? ⟨w.heap.size + 1, k, none⟩ = some (.slice (some ⟨w.heap.size + 2 + k, 0, none⟩) (ps[k].size + 2) (ps[k].size + 2)) := by rw [inv.l.cell, filled_get _ _ _ _ hlt (Nat.le_refl _)]; rfl
          obtain ⟨u, ci⟩ : ∃ u, wr.cell? ⟨w.heap.size + 2 + ps.length, k, none⟩ = some u := ⟨_, inv.cuts.cellAt k (by rw [filled_length _ _ _ hk]; omega)⟩
          have fi := inv.cuts.frozen k
          have INV := inv.step hlt
          have hbN : b ≠ w.heap.size + 2 + ps.length := by omega
          clear hne hcells
          go_wp2
          go_region
          go_wp2
          go_roundw
          case rel => exact ⟨k + 1, by omega, by go_num, INV⟩
          case measure => simp [intOf]; omega
        · obtain rfl : k = ps.length := by omega
          go_wp2_with fail
          refine (progSum _ _ _ (inv.parts hn hsum _ (fun _ => rfl) _)).mono ?_
          rintro e w3 ⟨rfl, rfl⟩
          go_wp2_with fail
          refine (refSum _ _ (by unfold maxLen; omega)).mono ?_
          rintro e w4 ⟨rfl, rfl⟩
          have hj : (joined ps).data.toList = (ps.map fun s => s.data.toList).flatten := by simp [joined]
          rw [hj]
          have cn : w4.cell? ⟨w.heap.size + 2 + ps.length, ps.length, none⟩ = some (.slice none 0 0) := by rw [inv.cuts.cell, filled_rest _ _ _ _ (Nat.le_refl _) (Nat.le_refl _)]; rfl
          clear hj
          have inv3 := inv.start
          clear inv
          have heq := fun wx => Lib.run_eql_slice_nil (P := Try.prog) wx 31 5 none 0 0 0 0 Try.underlying31
          go_wp2
          clear cn heq
          go_loopw [10, 11] (fun ok i wr => ∃ (k : Nat) (v2 : Value) (xs : List Value), k ≤ ps.length ∧ ok = .bool true ∧ i = .int .i64 k ∧ Inv3 w ps k v2 xs wr) (fun _ i _ => ps.length - (intOf i).toNat)
          case atStart => exact ⟨0, nilS, [], Nat.zero_le _, rfl, rfl, inv3⟩
          case round =>
            obtain ⟨k, v2, xs, hk, rfl, rfl, inv⟩ := hrel
            clear inv3
            by_cases hlt : k < ps.length
            · obtain ⟨rfl, hb⟩ := hne (by intro e; simp [e] at hlt)
              have hsz := size_le_joined ps k hlt
              have ck : ∀ wx : World, Keeps (fun _ => False) wr wx → wx.cell? ⟨b, o + k, none⟩ = some (.string ps[k]) := fun wx hx => by rw [hx.cell (Nat.lt_of_lt_of_le hb inv.keeps.size) (fun e => e), inv.keeps.cell hb (fun e => e)]; exact hcells k hlt
              have ck1 := ck wr (Keeps.refl _ _)
              have cc : wr.cell? ⟨w.heap.size + 2 + ps.length, k, none⟩ = some (.slice (some ⟨w.heap.size + 2 + k, 0, none⟩) ps[k].size (ps[k].size + 2)) := by rw [inv.cuts.cell, filled_get _ _ _ _ hlt (Nat.le_refl _)]; rfl
              have cl : wr.cell? ⟨w.heap.size + 1, k, none⟩ = some (.slice (some ⟨w.heap.size + 2 + k, 0, none⟩) (ps[k].size + 2) (ps[k].size + 2)) := by rw [inv.l.cell, filled_get _ _ _ _ hlt (Nat.le_refl _)]; rfl
              clear hne hcells ck
              go_wp2
              go_region
              go_wp2
              have hrow := inv.rows k (Nat.le_refl _) hlt
              have hlx := inv.len
              have HC : Hid (∀ wx : World, wx.heap = wr.heap → wx.os = wr.os → wx.tape = wr.tape → wx.output = wr.output → Calls Try.prog 7 #[.pointer (some ⟨w.heap.size, 0, none⟩), .slice (some ⟨w.heap.size + 2 + k, 0, none⟩) (ps[k].size + 2) (ps[k].size + 2), .string ps[k]] wx fun e w' => e = .returned (.bool true) ∧ ∃ v2' xs', Inv3 w ps (k + 1) v2' xs' w') := by
                intro wx e1 e2 e3 e4
                have hx : Inv3 w ps k v2 xs wx := inv.same e1 e2 e3 e4
                refine (returned_any _ wx w.heap.size (w.heap.size + 2 + k) nilS nilS v2 nilS nilS nilS xs (by omega) (by omega) (hx.rows k (Nat.le_refl _) hlt) hx.world hx.own).mono ?_
                rintro e w' ⟨rfl, _, hkp, v2', hN, hown, hfr⟩
                exact ⟨rfl, v2', _, hx.step _ hkp hN hown hfr hlt⟩
              clear hrow hlx inv
              go_region_with (go_at_call 7; refine (HC.out _ (by rfl) (by rfl) (by rfl) (by rfl)).mono ?_; rintro e w' ⟨rfl, v2', xs', inv'⟩)
              all_goals
                go_wp2
                go_roundw
                case rel => exact ⟨k + 1, _, _, by omega, rfl, by go_num, by assumption⟩
                case measure => simp [intOf]; omega
            · obtain rfl : k = ps.length := by omega
              go_wp2_with fail
              refine (progSum _ [] _ ⟨0, 0, none, 0, rfl, by simp, fun h => absurd rfl h, fun i hi => absurd hi (by simp)⟩).mono ?_
              rintro e w5 ⟨rfl, rfl⟩
              go_wp2
              go_ret
              exact ⟨rfl, inv.keeps.below (fun _ _ e => e) (Nat.le_refl _)⟩

end Go.Proofs.Ytdipojfngdceoaa
