/- Steps on the way: ProgProofs2, ProgSource, ProgRoot, ProgRoot2. -/
import Derived.Test.YtdipojfngdceoaaDoorPack12
import Derived.Test.YtdipojfngdceoaaDoorPack40
import Derived.Test.YtdipojfngdceoaaDoorPack47
import Derived.Test.YtdipojfngdceoaaDoorPack58
import Derived.Test.YtdipojfngdceoaaDoorPack63
/- The program's memory of proofs: a cell's word is told and given. -/
namespace Go.Proofs.YtdipojfngdceoaaDoor
open Go.RowKit

namespace Dp
theorem ProofsInv.still {w0 wb : World} {pc q p L : Nat} {w w' : World} {m : Pm} (h : ProofsInv w0 wb pc q p L w m) (hpc : w0.heap.size ≤ pc) (k : Keeps (fun _ => False) w w') : ProofsInv w0 wb pc q p L w' m :=
  (h.keep hpc (k.mono (fun _ _ e => e.elim))).1
theorem ProofsInv.setRoot {w0 wb : World} {pc q p L : Nat} {w : World} {m : Pm} (h : ProofsInv w0 wb pc q p L w m) (r : Int) (hr : 0 ≤ r ∧ r < 65536) : ProofsInv w0 wb pc q p L (w.setCell ⟨q, 2, none⟩ (.int .i64 r)) { m with root := r } := by
  obtain ⟨a, vt, xs, ha, h1, ho, ht, hl, hn⟩ := h.row
  have k : Keeps (fun i => i = q) w (w.setCell ⟨q, 2, none⟩ (.int .i64 r)) := Keeps.setCell (S := fun i => i = q) (p := ⟨q, 2, none⟩) (Keeps.refl _ _) (.inr rfl) _
  refine ⟨h.parts.keep k h.pq (fun i hi e => by have := h.new; omega), h.new, h.pq, h.cp, h.cq, h.lo, h.clt, h.frame.trans (k.mono (fun _ _ e => .inr (.inl e))), hr, ⟨a, vt, xs, ha, h1.set 2 _, ho.keep k (ho.ne h1 (by decide)), ht.keep k (fun g e hg _ => hg.ne h1 (by decide)), hl, hn⟩⟩
theorem ProofsInv.q_lt {w0 wb : World} {pc q p L : Nat} {w : World} {m : Pm} (h : ProofsInv w0 wb pc q p L w m) : q < w.heap.size := by
  obtain ⟨a, vt, xs, ha, h1, _⟩ := h.row
  exact h1.lt
end Dp

set_option maxRecDepth 100000 in
set_option maxHeartbeats 1000000 in
theorem progPLoad (w0 wb : World) (pc q p : Nat) (eb : Addr) (L : Nat) (n : Int) (w : World) (m : Dp.Pm) (he : Dp.ErrAt w0 eb) (h : Dp.ProofsInv w0 wb pc q p L w m) (hL : L ≤ 16777216) (hn : Dp.isWord n) :
    Calls Tryd.prog 138 #[.pointer (some ⟨q, 0, none⟩), .int .u32 n] w fun e w' => Dp.after (Dp.proofsMemo.load m n) (e = .panicked (Dp.wrong eb) ∧ Dp.Keeps (fun _ => False) w0 w') fun r => e = .returned (.tuple #[.int .u32 r.2.1, .int .i64 r.2.2]) ∧ Dp.isWord r.2.1 ∧ (0 ≤ r.2.2 ∧ r.2.2 < 8) ∧ Dp.ProofsInv w0 wb pc q p L w' r.1 ∧ Dp.Keeps (Dp.ProofsF q p w) w w' := by
  unfold Dp.isWord at hn
  by_cases hge : n ≥ 256
  · have HC := Hid.mk_ (progReach (.pointer (some ⟨q, 0, none⟩)) n w)
    rw [if_pos hge] at HC
    have HE : Hid (Dp.proofsMemo.load m n = some (m, 0, 3)) := by unfold Hid; simp only [Dp.proofsMemo, hge, if_true]
    go_enter Tryd.func138, Tryd.ntmps138
    go_wp2_with (refine HC.out.mono ?_; rintro e w' ⟨rfl, rfl⟩)
    go_ret2
    rw [HE.out]
    exact ⟨rfl, by simp [Dp.isWord], by simp, h, Dp.Keeps.refl _ _⟩
  · have HC := Hid.mk_ (progReach (.pointer (some ⟨q, 0, none⟩)) n w)
    rw [if_neg hge] at HC
    obtain ⟨k, rfl⟩ := Int.eq_ofNat_of_zero_le hn.1
    have HE : Hid (Dp.proofsMemo.load m (k : Int) = if Dp.fitsNow m k then some (⟨m.rest.drop 20, m.root, m.texts ++ Dp.pfTexts m.rest k⟩, Dp.numTo m.rest 0 4, 0) else none) := by unfold Hid; simp only [Dp.proofsMemo, hge, if_false, Int.toNat_natCast]
    have HB := Hid.mk_ (Dp.numTo_bd m.rest 0 4 (Nat.le_refl _))
    go_enter Tryd.func138, Tryd.ntmps138
    go_wp2_with fail
    refine HC.out.mono ?_
    rintro e w' ⟨rfl, hww⟩
    subst w'
    go_wp2_with fail
    refine (progPCut w0 wb pc q p eb L k _ m he h hL).mono ?_
    intro e w1 h1
    cases hf : Dp.fitsNow m k with
    | true =>
      rw [hf, if_pos rfl, Dp.after_some] at h1
      obtain ⟨rfl, hI, hk⟩ := h1
      have HE2 := HE.out
      rw [hf, if_pos rfl] at HE2
      have HE3 := Hid.mk_ HE2
      clear HE2 hf
      generalize Dp.numTo m.rest 0 4 = W at *
      generalize Dp.others m.rest 8 = OS at *
      have hfd : ∀ wx, (Instr.field 186 (.agg (Dp.proofCells W OS).toArray) 0).run Tryd.prog wx = .ok (.int .u32 W) wx := fun wx => rfl
      go_wp2
      go_ret2
      rw [HE3.out]
      exact ⟨rfl, HB.out, by simp, hI, hk⟩
    | false =>
      rw [hf, if_neg (by simp), Dp.after_none] at h1
      obtain ⟨rfl, hk⟩ := h1
      have HE2 := HE.out
      rw [hf, if_neg (by simp)] at HE2
      exact ⟨rfl, by rw [HE2]; exact ⟨rfl, hk⟩⟩

set_option maxRecDepth 100000 in
set_option maxHeartbeats 1000000 in
theorem progPStore (w0 wb : World) (pc q p : Nat) (eb : Addr) (L : Nat) (n v : Int) (w : World) (m : Dp.Pm) (he : Dp.ErrAt w0 eb) (h : Dp.ProofsInv w0 wb pc q p L w m) (hpc : w0.heap.size ≤ pc) (hL : L ≤ 16777216) (hn : Dp.isWord n) (hv : Dp.isWord v) :
    Calls Tryd.prog 140 #[.pointer (some ⟨q, 0, none⟩), .int .u32 n, .int .u32 v] w fun e w' => Dp.after (Dp.proofsMemo.store m n v) (e = .panicked (Dp.wrong eb) ∧ Dp.Keeps (fun _ => False) w0 w') fun r => e = .returned (.int .i64 r.2) ∧ (0 ≤ r.2 ∧ r.2 < 8) ∧ Dp.ProofsInv w0 wb pc q p L w' r.1 ∧ Dp.Keeps (Dp.ProofsF q p w) w w' := by
  unfold Dp.isWord at hn
  by_cases hge : n ≥ 256
  · have HC := Hid.mk_ (progReach (.pointer (some ⟨q, 0, none⟩)) n w)
    rw [if_pos hge] at HC
    have HE : Hid (Dp.proofsMemo.store m n v = some (m, 3)) := by unfold Hid; simp only [Dp.proofsMemo, hge, if_true]
    go_enter Tryd.func140, Tryd.ntmps140
    go_wp2_with (refine HC.out.mono ?_; rintro e w' ⟨rfl, rfl⟩)
    go_ret
    rw [HE.out]
    exact ⟨rfl, by simp, h, Dp.Keeps.refl _ _⟩
  · have HC := Hid.mk_ (progReach (.pointer (some ⟨q, 0, none⟩)) n w)
    rw [if_neg hge] at HC
    obtain ⟨k, rfl⟩ := Int.eq_ofNat_of_zero_le hn.1
    have HE : Hid (Dp.proofsMemo.store m (k : Int) v = if Dp.fitsNow m k then some (⟨m.rest.drop 20, Dp.rooted m.rest v k 8, m.texts ++ Dp.pfTexts m.rest k⟩, 0) else none) := by unfold Hid; simp only [Dp.proofsMemo, hge, if_false, Int.toNat_natCast]
    go_enter Tryd.func140, Tryd.ntmps140
    go_wp2_with fail
    refine HC.out.mono ?_
    rintro e w' ⟨rfl, hww⟩
    subst w'
    go_wp2_with fail
    refine (progPCut w0 wb pc q p eb L k _ m he h hL).mono ?_
    intro e w1 h1
    cases hf : Dp.fitsNow m k with
    | true =>
      rw [hf, if_pos rfl, Dp.after_some] at h1
      obtain ⟨rfl, hI, hk⟩ := h1
      have HE2 := HE.out
      rw [hf, if_pos rfl] at HE2
      have HE3 := Hid.mk_ HE2
      have HRB := Hid.mk_ (Dp.rooted_bd m.rest v k 8)
      have HPT := Hid.mk_ (Dp.ptext_rooted m.rest v k 8 (Nat.le_refl _))
      have HOL := Hid.mk_ (Dp.others_length m.rest 8)
      have HOB := Hid.mk_ (Dp.others_bd m.rest 8)
      have HII := Hid.mk_ hI
      have hql := hI.q_lt
      obtain ⟨a, vt, xs, ha, hrow, _⟩ := hI.row
      clear HE2 hf hI
      generalize Dp.numTo m.rest 0 4 = W at *
      generalize Dp.others m.rest 8 = OS at *
      generalize Dp.rooted m.rest v k 8 = R at *
      have HM : Hid ((Dp.proofCells W OS).length = 9) := by unfold Hid; rw [Dp.proofCells_length, HOL.out]
      have HM2 : Hid ((Dp.proofCells v OS).length = 9) := by unfold Hid; rw [Dp.proofCells_length, HOL.out]
      generalize hG : w1.heap.size = G at *
      go_wp2_with (refine Dp.wpList_alloc_row rfl 186 rfl _ zeroProof ?_)
      intro w2 r2 z2 k2
      have HR2 : Hid (Dp.Row w2 G 186 ([] ++ Dp.proofCells 0 [0, 0, 0, 0, 0, 0, 0, 0] ++ [])) := by unfold Hid; rw [List.append_nil, List.nil_append]; first | exact r2 | (rw [← hG]; exact r2)
      go_wp2_with (refine Dp.wpList_store_in rfl 186 _ _ rfl G 0 rfl (Dp.proofCells W OS) rfl 186 [] _ [] HR2.out rfl (HM.out.trans rfl) (by rw [sizeProof, HM.out]) (Dp.proofCells_one _ _) ?_)
      intro w3 r3 z3 k3
      have r3' : Dp.Row w3 G 186 (Dp.proofCells W OS) := by simpa using r3
      have c0 : w3.cell? ⟨G, 0, none⟩ = some (.int .u32 W) := r3'.cell 0
      have f0 := r3'.frozen 0
      have HR4 : Hid (Dp.Row (w3.setCell ⟨G, 0, none⟩ (.int .u32 v)) G 186 ([] ++ Dp.proofCells v OS ++ [])) := by
        unfold Hid; rw [List.append_nil, List.nil_append]; exact r3'.set 0 _
      have k13 : Dp.Keeps (fun _ => False) w1 w3 := k2.next k3 (fun i hi e => by omega)
      have HK4 : Hid (Dp.Keeps (fun _ => False) w1 (w3.setCell ⟨G, 0, none⟩ (.int .u32 v))) := k13.setCell (p := ⟨G, 0, none⟩) (.inl (by show w1.heap.size ≤ G; omega)) _
      clear r2 z2 k2 r3 r3' z3 k3 k13 HR2
      go_wp2_with (refine Dp.wpList_load_in rfl 186 _ rfl G 0 rfl 186 [] _ [] HR4.out rfl _ Tryd.underlying186 rfl (by rw [sizeProof, HM2.out]) ?_)
      intro _
      go_wp2_with fail
      refine (progPRoot v OS k _ hv HOL.out HOB.out).mono ?_
      rintro e w5 ⟨rfl, k5⟩
      rw [HPT.out]
      have k15 := HK4.out.trans k5
      have hr5 := hrow.keep k15 (fun e => e)
      have c2 : w5.cell? ⟨q, 2, none⟩ = some (.int .i64 m.root) := hr5.cell 2
      have f2 := hr5.frozen 2
      have HI5 := Hid.mk_ ((HII.out.still hpc k15).setRoot R (by have := HRB.out; omega))
      have HK6 : Hid (Dp.Keeps (Dp.ProofsF q p w) w (w5.setCell ⟨q, 2, none⟩ (.int .i64 R))) := (hk.next k15 (fun i hi e => e.elim)).setCell (p := ⟨q, 2, none⟩) (.inr (.inl rfl)) _
      clear k15 k5 hr5 hrow c0 f0 HR4 HK4 hk
      go_wp2
      go_ret
      rw [HE3.out]
      exact ⟨rfl, by simp, HI5.out, HK6.out⟩
    | false =>
      rw [hf, if_neg (by simp), Dp.after_none] at h1
      obtain ⟨rfl, hk⟩ := h1
      have HE2 := HE.out
      rw [hf, if_neg (by simp)] at HE2
      exact ⟨rfl, by rw [HE2]; exact ⟨rfl, hk⟩⟩
end Go.Proofs.YtdipojfngdceoaaDoor

/- The program's sources: the first one that is called so. -/
namespace Go.Proofs.YtdipojfngdceoaaDoor
open Go.RowKit

namespace Dp
def srcErr (x : Option (List UInt8)) : Int := match x with
  | none => 5
  | some _ => 0
theorem cell_new_one (w : World) (v : Value) (e : TypeId) : (w.alloc (.cells #[v] e)).cell? ⟨w.heap.size, 0, none⟩ = some v := by
  have h := Row.allocNew w e [v]
  exact h.cell 0
/-- One part alone. -/
theorem parts_one {w : World} {v : Value} {e : TypeId} {l : List UInt8} (h : Bytes (w.alloc (.cells #[v] e)) v l) : Parts (w.alloc (.cells #[v] e)) (.slice (some ⟨w.heap.size, 0, none⟩) 1 1) [l] := by
  refine ⟨w.heap.size, 0, some ⟨w.heap.size, 0, none⟩, 1, rfl, by simp [maxLen], fun _ => rfl, fun i hi => ?_⟩
  obtain rfl : i = 0 := by simpa using hi
  exact ⟨v, cell_new_one w v e, h⟩
theorem findSrc_some (srcs : List (List UInt8)) (name : Int) (k : Nat) (hk : k < srcs.length) (hno : ∀ j (h : j < srcs.length), j < k → sum srcs[j] ≠ name) (h : sum srcs[k] = name) : findSrc srcs name = some srcs[k] := by
  unfold findSrc
  rw [List.find?_eq_some_iff_getElem]
  exact ⟨by simpa using h, k, hk, rfl, fun j hj => by simpa using hno j (by omega) hj⟩
theorem findSrc_none (srcs : List (List UInt8)) (name : Int) (hno : ∀ j (h : j < srcs.length), sum srcs[j] ≠ name) : findSrc srcs name = none := by
  unfold findSrc
  rw [List.find?_eq_none]
  intro l hl
  obtain ⟨j, hj, rfl⟩ := List.getElem_of_mem hl
  simpa using hno j hj
end Dp

set_option maxRecDepth 100000 in
set_option maxHeartbeats 1000000 in
theorem progSource (G : Nat → Prop) (w : World) (b o : Nat) (vs : Value) (srcs : List (List UInt8)) (name : Int) (hc : w.cell? ⟨b, o, none⟩ = some vs) (hP : Dp.PartsIn G w vs srcs) (hG : ∀ q, G q → q < w.heap.size) :
    Calls Tryd.prog 130 #[.pointer (some ⟨b, o, none⟩), .int .u32 name] w fun e w' => (∃ v, e = .returned (.tuple #[v, .int .i64 (Dp.srcErr (Dp.findSrc srcs name))]) ∧ Dp.Bytes w' v ((Dp.findSrc srcs name).getD [])) ∧ Dp.Keeps (fun _ => False) w w' := by
  obtain ⟨b2, o2, ad, cap, rfl, hlen, hne, hcells⟩ := hP
  unfold maxLen at hlen
  have HC := Hid.mk_ hcells
  have HN := Hid.mk_ hne
  clear hcells hne
  go_enter Tryd.func130, Tryd.ntmps130
  go_wp2
  go_loopw [7, 13] (fun _ i wr => ∃ k : Nat, k ≤ srcs.length ∧ i = .int .i64 k ∧ (∀ j (h : j < srcs.length), j < k → Dp.sum srcs[j] ≠ name) ∧ Dp.Keeps (fun _ => False) w wr) (fun _ i _ => srcs.length - (intOf i).toNat)
  case atStart => exact ⟨0, Nat.zero_le _, rfl, fun j _ hj => absurd hj (by omega), Dp.Keeps.refl _ _⟩
  case round =>
    obtain ⟨k, hk, rfl, hno, kr⟩ := hrel
    have HNO := Hid.mk_ hno
    clear hno
    by_cases hlt : k < srcs.length
    · obtain ⟨hgb, rfl⟩ := HN.out (by intro e; simp [e] at hlt)
      obtain ⟨b3, o3, ad3, cap3, hc1, hl3, hn3, hc3⟩ := HC.out k hlt
      have hb2 := hG b2 hgb
      have ck : wr.cell? ⟨b2, o2 + k, none⟩ = some (.slice ad3 srcs[k].length cap3) := (kr.cell (p := ⟨b2, o2 + k, none⟩) hb2 (fun e => e)).trans hc1
      have HB : Hid (∀ wx, Dp.Keeps (fun _ => False) wr wx → Dp.Bytes wx (.slice ad3 srcs[k].length cap3) srcs[k]) := by
        intro wx kx
        refine ⟨b3, o3, ad3, cap3, rfl, hl3, fun e => (hn3 e).2, fun j hj => ?_⟩
        have hb3 := hG b3 (hn3 (by intro e; simp [e] at hj)).1
        exact ((kr.trans kx).cell (p := ⟨b3, o3 + j, none⟩) hb3 (fun e => e)).trans (hc3 j hj)
      clear hc1 hl3 hn3 hc3
      have hsb := Dp.sum_bd srcs[k]
      go_wp2_with fail
      refine (digSum _ [srcs[k]] _ (Dp.parts_one (HB.out _ ((Dp.Keeps.refl _ _).alloc _)))).mono ?_
      rintro e w4 ⟨rfl, rfl⟩
      rw [List.flatten_singleton]
      have KR := Hid.mk_ (kr.alloc (.cells #[.slice ad3 srcs[k].length cap3] 44))
      have HB4 := Hid.mk_ (HB.out _ ((Dp.Keeps.refl _ _).alloc (.cells #[.slice ad3 srcs[k].length cap3] 44)))
      by_cases hs : Dp.sum srcs[k] = name
      · have HF := Hid.mk_ (Dp.findSrc_some srcs name k hlt HNO.out hs)
        rw [hs]
        clear ck HB
        go_wp2
        go_ret2
        rw [HF.out]
        exact ⟨⟨_, rfl, HB4.out⟩, KR.out⟩
      · have HF : Hid (∀ j (h : j < srcs.length), j < k + 1 → Dp.sum srcs[j] ≠ name) := by
          intro j hj hjk
          by_cases e : j = k
          · subst e; exact hs
          · exact HNO.out j hj (by omega)
        generalize Dp.sum srcs[k] = sk at *
        clear ck HB
        go_wp2
        go_roundw
        case rel => exact ⟨k + 1, by omega, by go_num, HF.out, KR.out⟩
        case measure => simp [intOf]; omega
    · have HF := Hid.mk_ (Dp.findSrc_none srcs name (fun j hj => HNO.out j hj (by omega)))
      go_wp2
      go_ret2
      rw [HF.out]
      exact ⟨⟨_, rfl, 0, 0, none, 0, rfl, by simp [maxLen], fun e => absurd rfl e, fun j hj => absurd hj (by simp)⟩, kr⟩

end Go.Proofs.YtdipojfngdceoaaDoor

/- The program's root: the digests of the single cells. -/
namespace Go.Proofs.YtdipojfngdceoaaDoor
open Go.RowKit

namespace Dp
/-- The digests of all that has 2 to the power d cells. -/
def level (cells : List Int) (d : Nat) : List Int := (List.range (256 / 2 ^ d)).map fun k => digest cells (k * 2 ^ d) d
theorem level_length (cells : List Int) (d : Nat) : (level cells d).length = 256 / 2 ^ d := by simp [level]
theorem level_zero_getElem (cells : List Int) (k : Nat) (h : k < (level cells 0).length) : (level cells 0)[k] = sum (0 :: four (cells.getD k 0)) := by
  simp [level, digest]
theorem fill_next (l : List Int) (k : Nat) (hk : k < l.length) (n : Nat) (hn : l.length = n) : (regCells (l.take k) ++ List.replicate (n - k) (Value.int .i64 0)).set k (.int .i64 l[k]) = regCells (l.take (k + 1)) ++ List.replicate (n - (k + 1)) (.int .i64 0) := by
  have h1 : (regCells (l.take k)).length = k := by simp [regCells]; omega
  rw [List.set_append_right _ _ (by omega), h1, Nat.sub_self, List.take_succ_eq_append_getElem hk, show n - k = (n - (k + 1)) + 1 by omega, List.replicate_succ]
  rw [List.set_cons_zero]; unfold regCells; rw [List.map_append, List.append_assoc]; rfl
theorem fill_at (l : List Int) (k : Nat) (n : Nat) (hk : k < n) (hn : l.length = n) : (regCells (l.take k) ++ List.replicate (n - k) (Value.int .i64 0))[k]? = some (.int .i64 0) := by
  have h1 : (regCells (l.take k)).length = k := by simp [regCells]; omega
  rw [List.getElem?_append_right (by omega), h1, Nat.sub_self, show n - k = (n - (k + 1)) + 1 by omega, List.replicate_succ]
  rfl
end Dp
theorem sizeWords : (Tryd.prog.info? 82).map (·.size) = some 256 := by kernel_rfl

set_option maxRecDepth 100000 in
set_option maxHeartbeats 1000000 in
theorem progDigests (w : World) (b o : Nat) (ty : TypeId) (pre post : List Value) (vs : Value) (cells : List Int) (hl : cells.length = 256) (hr : Dp.Row w b ty (pre ++ Dp.memCells vs cells ++ post)) (ho : pre.length = o) (hw : ∀ x ∈ cells, Dp.isWord x) :
    Calls Tryd.prog 52 #[.pointer (some ⟨b, o, none⟩)] w fun e w' => e = .returned (.slice (some ⟨w.heap.size, 0, none⟩) 256 256) ∧ Dp.Row w' w.heap.size 3 (Dp.regCells (Dp.level cells 0)) ∧ Dp.Keeps (fun _ => False) w w' := by
  have hlt := hr.lt
  go_enter Tryd.func52, Tryd.ntmps52
  go_wp2_with (at_make; refine Dp.wpList_make_row _ rfl _ _ 37 rfl 3 (.int .i64 0) 8 Tryd.underlying37 infoInt rfl _ _ _ _ 256 rfl rfl (by omega) (by omega) (by omega) (by simp [maxLen]) ?_)
  intro w1 r1 z1 k1
  have hr1 := hr.keep k1 (fun e => e)
  have HR : Hid (Dp.Row w1 b ty ((pre ++ [vs]) ++ Dp.wordCells cells ++ post)) := by
    unfold Hid; have h := hr1; unfold Dp.memCells at h; simpa using h
  have HL : Hid ((pre ++ [vs]).length = o + 1) := by unfold Hid; simp [ho]
  have HW : Hid ((Dp.wordCells cells).length = 256) := by unfold Hid; simp [Dp.wordCells, hl]
  go_wp2_with (refine Dp.wpList_load_in rfl 82 _ rfl b (o + 1) rfl ty _ _ _ HR.out HL.out _ Tryd.underlying82 rfl (by rw [sizeWords, HW.out]) ?_)
  intro _
  go_wp2
  go_loopw [4, 5, 11] (fun _ _ i wr => ∃ k : Nat, k ≤ 256 ∧ i = .int .i64 k ∧ Dp.Row wr w.heap.size 3 (Dp.regCells ((Dp.level cells 0).take k) ++ List.replicate (256 - k) (.int .i64 0)) ∧ Dp.Keeps (fun _ => False) w wr) (fun _ _ i _ => 256 - (intOf i).toNat)
  case atStart => exact ⟨0, Nat.zero_le _, rfl, r1, k1⟩
  case round =>
    obtain ⟨k, hk, rfl, rr, kr⟩ := hrel
    have hll : (Dp.level cells 0).length = 256 := by rw [Dp.level_length]
    by_cases hk2 : k < 256
    · have hx : (Dp.wordCells cells).toArray[k]? = some (.int .u32 (cells.getD k 0)) := by
        simp [Dp.wordCells, hl, hk2]
      have hwx : Dp.isWord (cells.getD k 0) := by
        rw [List.getD_eq_getElem?_getD, List.getElem?_eq_getElem (by omega)]; exact hw _ (List.getElem_mem _)
      have hidx : ∀ wx, (Instr.index 82 (.agg (Dp.wordCells cells).toArray) (.int .i64 (k : Int))).run Tryd.prog wx = .ok (.int .u32 (cells.getD k 0)) wx := fun wx => Dp.run_index_one wx 82 76 256 _ k _ (by rfl) (by rfl) (by rfl) hk2 hx
      have HG : Hid ((Dp.level cells 0)[k]'(by omega) = Dp.sum (0 :: Dp.four (cells.getD k 0))) := Dp.level_zero_getElem cells k (by omega)
      have HF := Hid.mk_ (Dp.fill_next (Dp.level cells 0) k (by omega) 256 hll)
      have hsb := Dp.sum_bd (0 :: Dp.four (cells.getD k 0))
      generalize cells.getD k 0 = cx at *
      clear HR hx hr hr1 r1
      go_wp2_with fail
      refine (progDCell cx _ hwx).mono ?_
      rintro e w3 ⟨rfl, k3⟩
      have rr3 := rr.keep k3 (fun e => e)
      have c3 : w3.cell? ⟨w.heap.size, k, none⟩ = some (.int .i64 0) := by rw [rr3.cell]; exact Dp.fill_at _ k 256 hk2 hll
      have f3 := rr3.frozen k
      have HR3 : Hid (Dp.Row (w3.setCell ⟨w.heap.size, k, none⟩ (.int .i64 (Dp.sum (0 :: Dp.four cx)))) w.heap.size 3 (Dp.regCells ((Dp.level cells 0).take (k + 1)) ++ List.replicate (256 - (k + 1)) (.int .i64 0))) := by
        have h := rr3.set k (.int .i64 (Dp.sum (0 :: Dp.four cx)))
        rw [← HG.out, HF.out] at h
        rw [← HG.out]; exact h
      have HK3 : Hid (Dp.Keeps (fun _ => False) w (w3.setCell ⟨w.heap.size, k, none⟩ (.int .i64 (Dp.sum (0 :: Dp.four cx))))) := (kr.trans k3).setCell (p := ⟨w.heap.size, k, none⟩) (.inl (Nat.le_refl _)) _
      generalize Dp.sum (0 :: Dp.four cx) = sx at *
      clear rr rr3 hidx
      go_wp2
      go_roundw
      case rel => exact ⟨k + 1, by omega, by go_num, HR3.out, HK3.out⟩
      case measure => simp [intOf]; omega
    · obtain rfl : k = 256 := by omega
      have HR : Hid (Dp.Row wr w.heap.size 3 (Dp.regCells (Dp.level cells 0))) := by
        unfold Hid
        have h := rr
        rw [List.take_of_length_le (by omega), Nat.sub_self, List.replicate_zero, List.append_nil] at h
        exact h
      clear rr
      go_wp2
      go_ret
      exact ⟨rfl, HR.out, kr⟩

end Go.Proofs.YtdipojfngdceoaaDoor

/- The program's root: halves are joined till one digest is left. -/
namespace Go.Proofs.YtdipojfngdceoaaDoor
open Go.RowKit

namespace Dp
/-- The digests of every two neighbours. -/
def join (l : List Int) : List Int := (List.range (l.length / 2)).map fun k => sum (1 :: (two (l.getD (2 * k) 0) ++ two (l.getD (2 * k + 1) 0)))
theorem join_length (l : List Int) : (join l).length = l.length / 2 := by simp [join]
theorem level_getD (cells : List Int) (d k : Nat) (hk : k < 256 / 2 ^ d) : (level cells d).getD k 0 = digest cells (k * 2 ^ d) d := by
  rw [List.getD_eq_getElem?_getD, List.getElem?_eq_getElem (by rw [level_length]; exact hk)]
  simp [level]
theorem join_level (cells : List Int) (d : Nat) (hd : d < 8) : join (level cells d) = level cells (d + 1) := by
  have h2 : 256 / 2 ^ d = 2 * (256 / 2 ^ (d + 1)) := by
    rcases (by omega : d = 0 ∨ d = 1 ∨ d = 2 ∨ d = 3 ∨ d = 4 ∨ d = 5 ∨ d = 6 ∨ d = 7) with rfl | rfl | rfl | rfl | rfl | rfl | rfl | rfl <;> decide
  unfold join
  rw [level_length, h2]
  have e : 2 * (256 / 2 ^ (d + 1)) / 2 = 256 / 2 ^ (d + 1) := by omega
  rw [e]
  conv => rhs; unfold level
  apply List.map_congr_left
  intro k hk
  have hk' : k < 256 / 2 ^ (d + 1) := by simpa using hk
  rw [level_getD cells d (2 * k) (by omega), level_getD cells d (2 * k + 1) (by omega), digest_succ]
  have e1 : 2 * k * 2 ^ d = k * 2 ^ (d + 1) := by rw [Nat.pow_succ, Nat.mul_comm 2 k, Nat.mul_assoc, Nat.mul_comm 2]
  have e2 : (2 * k + 1) * 2 ^ d = k * 2 ^ (d + 1) + 2 ^ d := by rw [Nat.add_mul, e1, Nat.one_mul]
  rw [e1, e2]
theorem level_bd (cells : List Int) (d : Nat) : ∀ x ∈ level cells d, 0 ≤ x ∧ x < 65536 := by
  intro x hx
  simp only [level, List.mem_map] at hx
  obtain ⟨k, _, rfl⟩ := hx
  have := digest_bd cells (k * 2 ^ d) d
  omega
theorem regCells_at {w : World} {g : Nat} {e : TypeId} {l : List Int} (h : Row w g e (regCells l)) (k : Nat) (hk : k < l.length) : w.cell? ⟨g, k, none⟩ = some (.int .i64 (l.getD k 0)) := by
  rw [h.cell]; simp [regCells, hk]
theorem getD_bd {l : List Int} (h : ∀ x ∈ l, 0 ≤ x ∧ x < 65536) (k : Nat) : 0 ≤ l.getD k 0 ∧ l.getD k 0 < 65536 := by
  rw [List.getD_eq_getElem?_getD]
  cases e : l[k]? with
  | none => simp
  | some x => exact h x (List.mem_of_getElem? e)
end Dp

set_option maxRecDepth 100000 in
set_option maxHeartbeats 1000000 in
theorem progJoined (w : World) (g : Nat) (lv : List Int) (n : Nat) (hn : lv.length = n + n) (hn1 : 0 < n ∧ n ≤ 128) (hr : Dp.Row w g 3 (Dp.regCells lv)) (hb : ∀ x ∈ lv, 0 ≤ x ∧ x < 65536) :
    Calls Tryd.prog 53 #[.slice (some ⟨g, 0, none⟩) (n + n) (n + n)] w fun e w' => e = .returned (.slice (some ⟨w.heap.size, 0, none⟩) n n) ∧ Dp.Row w' w.heap.size 3 (Dp.regCells (Dp.join lv)) ∧ Dp.Keeps (fun _ => False) w w' := by
  have hlt := hr.lt
  go_enter Tryd.func53, Tryd.ntmps53
  go_wp2_with (at_make; refine Dp.wpList_make_row _ rfl _ _ 37 rfl 3 (.int .i64 0) 8 Tryd.underlying37 infoInt rfl _ _ _ _ n rfl rfl (by omega) (by omega) (by omega) (by unfold maxLen; omega) ?_)
  intro w1 r1 z1 k1
  have hjl : (Dp.join lv).length = n := by rw [Dp.join_length]; omega
  go_wp2
  go_loopw [4, 11] (fun _ i wr => ∃ k : Nat, k ≤ n ∧ i = .int .i64 k ∧ Dp.Row wr w.heap.size 3 (Dp.regCells ((Dp.join lv).take k) ++ List.replicate (n - k) (.int .i64 0)) ∧ Dp.Keeps (fun _ => False) w wr) (fun _ i _ => n - (intOf i).toNat)
  case atStart => exact ⟨0, Nat.zero_le _, rfl, r1, k1⟩
  case round =>
    obtain ⟨k, hk, rfl, rr, kr⟩ := hrel
    by_cases hk2 : k < n
    · have hg := hr.keep kr (fun e => e)
      have qa : ∀ wx, Dp.Keeps (fun _ => False) wr wx → wx.cell? ⟨g, 2 * k, none⟩ = some (.int .i64 (lv.getD (2 * k) 0)) := fun wx kx => Dp.regCells_at (hg.keep kx (fun e => e)) (2 * k) (by omega)
      have qb : ∀ wx, Dp.Keeps (fun _ => False) wr wx → wx.cell? ⟨g, 2 * k + 1, none⟩ = some (.int .i64 (lv.getD (2 * k + 1) 0)) := fun wx kx => Dp.regCells_at (hg.keep kx (fun e => e)) (2 * k + 1) (by omega)
      have ha := Dp.getD_bd hb (2 * k)
      have hbb := Dp.getD_bd hb (2 * k + 1)
      have HG : Hid ((Dp.join lv)[k]'(by omega) = Dp.sum (1 :: (Dp.two (lv.getD (2 * k) 0) ++ Dp.two (lv.getD (2 * k + 1) 0)))) := by unfold Hid; simp [Dp.join]
      have HF := Hid.mk_ (Dp.fill_next (Dp.join lv) k (by omega) n hjl)
      generalize lv.getD (2 * k) 0 = xa at *
      generalize lv.getD (2 * k + 1) 0 = xb at *
      have hsb := Dp.sum_bd (1 :: (Dp.two xa ++ Dp.two xb))
      have hS0 : Dp.Keeps (fun _ => False) wr wr.drew := (Dp.Keeps.refl _ _).drew
      have e1 : IntKind.i64.wrap (2 * (k : Int)) = 2 * (k : Int) := IntWalk.i64_in _ (by omega)
      have e2 : IntKind.i64.wrap (2 * (k : Int) + 1) = 2 * (k : Int) + 1 := IntWalk.i64_in _ (by omega)
      have t1 : (2 * (k : Int)).toNat = 2 * k := by omega
      have t2 : (2 * (k : Int) + 1).toNat = 2 * k + 1 := by omega
      have b1 : 0 ≤ 2 * (k : Int) := by omega
      have b2 : 2 * (k : Int) < (n : Int) + (n : Int) := by omega
      have b3 : 0 ≤ 2 * (k : Int) + 1 := by omega
      have b4 : 2 * (k : Int) + 1 < (n : Int) + (n : Int) := by omega
      go_wp2
      refine Dp.wp_region_L (fun wx => Dp.Keeps (fun _ => False) wr wx) 14 mixedP ?_
      refine' Dp.wpAnyL_take 0 rfl (by kernel_rfl) (fun _ _ _ h => h) (by rfl) ?hy0 hS0 ?rest0
      case hy0 => intro wx hSx; go_simp; try with_reducible rfl
      simp only [Act.put, List.getElem_toArray, List.getElem_cons_zero, List.setIfInBounds_toArray, List.set_cons_zero, List.set_cons_succ]
      refine' Dp.wpAnyL_take 1 rfl (by kernel_rfl) (fun _ _ _ h => h) (by rfl) ?hy1 hS0 ?rest1
      case hy1 => intro wx hSx; go_simp; try with_reducible rfl
      simp only [Act.put, List.getElem_toArray, List.getElem_cons_zero, List.getElem_cons_succ, List.setIfInBounds_toArray, List.set_cons_zero, List.set_cons_succ]
      refine' Dp.wpAnyL_take 2 rfl (by kernel_rfl) (fun _ _ _ h => h) (by rfl) ?hy2 hS0 ?rest2
      case hy2 => intro wx hSx; go_simp; try with_reducible rfl
      simp only [Act.put, List.getElem_toArray, List.getElem_cons_zero, List.getElem_cons_succ, List.setIfInBounds_toArray, List.set_cons_zero, List.set_cons_succ]
      refine' Dp.wpAnyL_take 3 rfl (by kernel_rfl) (fun _ _ _ h => h) (by rfl) ?hy3 hS0 ?rest3
      case hy3 => intro wx hSx; go_simp; try with_reducible rfl
      simp only [Act.put, List.getElem_toArray, List.getElem_cons_zero, List.getElem_cons_succ, List.setIfInBounds_toArray, List.set_cons_zero, List.set_cons_succ]
      refine' Dp.wpAnyL_take 4 rfl (by kernel_rfl) (fun _ _ _ h => h) (by rfl) ?hy4 hS0 ?rest4
      case hy4 => intro wx hSx; go_simp; try with_reducible rfl
      simp only [Act.put, List.getElem_toArray, List.getElem_cons_zero, List.getElem_cons_succ, List.setIfInBounds_toArray, List.set_cons_zero, List.set_cons_succ]
      refine' Dp.wpAnyL_take 5 rfl (by kernel_rfl) (fun _ _ _ h => h) (by rfl) ?hy5 hS0 ?rest5
      case hy5 => intro wx hSx; go_simp; try with_reducible rfl
      simp only [Act.put, List.getElem_toArray, List.getElem_cons_zero, List.getElem_cons_succ, List.setIfInBounds_toArray, List.set_cons_zero, List.set_cons_succ]
      refine' Dp.wpAnyL_take 6 rfl (by kernel_rfl) (fun _ _ _ h => h) (by rfl) ?hy6 hS0 ?rest6
      case hy6 => intro wx hSx; go_simp; try with_reducible rfl
      simp only [Act.put, List.getElem_toArray, List.getElem_cons_zero, List.getElem_cons_succ, List.setIfInBounds_toArray, List.set_cons_zero, List.set_cons_succ]
      refine' Dp.wpAnyL_take 7 rfl (by kernel_rfl) (fun _ _ _ h => h) (by rfl) ?hy7 hS0 ?rest7
      case hy7 => intro wx hSx; go_simp; try with_reducible rfl
      simp only [Act.put, List.getElem_toArray, List.getElem_cons_zero, List.getElem_cons_succ, List.setIfInBounds_toArray, List.set_cons_zero, List.set_cons_succ]
      refine' Dp.wpAnyL_take 8 rfl (by kernel_rfl) (fun _ _ _ h => h) (by rfl) ?hy8 hS0 ?rest8
      case hy8 => intro wx hSx; go_simp; try with_reducible rfl
      simp only [Act.put, List.getElem_toArray, List.getElem_cons_zero, List.getElem_cons_succ, List.setIfInBounds_toArray, List.set_cons_zero, List.set_cons_succ]
      refine' Dp.wpAnyL_take 9 rfl (by kernel_rfl) (fun _ _ _ h => h) (by rfl) ?hy9 hS0 ?rest9
      case hy9 => intro wx hSx; go_simp; try with_reducible rfl
      simp only [Act.put, List.getElem_toArray, List.getElem_cons_zero, List.getElem_cons_succ, List.setIfInBounds_toArray, List.set_cons_zero, List.set_cons_succ]
      refine' Dp.wpAnyL_take 10 rfl (by kernel_rfl) (fun _ _ _ h => h) (by rfl) ?hy10 hS0 ?rest10
      case hy10 => intro wx hSx; go_simp; try with_reducible rfl
      simp only [Act.put, List.getElem_toArray, List.getElem_cons_zero, List.getElem_cons_succ, List.setIfInBounds_toArray, List.set_cons_zero, List.set_cons_succ]
      refine' Dp.wpAnyL_take 11 rfl (by kernel_rfl) (fun _ _ _ h => h) (by rfl) ?hy11 hS0 ?rest11
      case hy11 => intro wx hSx; go_simp; try with_reducible rfl
      simp only [Act.put, List.getElem_toArray, List.getElem_cons_zero, List.getElem_cons_succ, List.setIfInBounds_toArray, List.set_cons_zero, List.set_cons_succ]
      refine' Dp.wpAnyL_take 12 rfl (by kernel_rfl) (fun _ _ _ h => h) (by rfl) ?hy12 hS0 ?rest12
      case hy12 => intro wx hSx; go_simp; try with_reducible rfl
      simp only [Act.put, List.getElem_toArray, List.getElem_cons_zero, List.getElem_cons_succ, List.setIfInBounds_toArray, List.set_cons_zero, List.set_cons_succ]
      refine Dp.wpAnyL_one 13 rfl (by kernel_rfl) (by rfl) (fun K hK => ?_)
      go_simp
      refine (progHalves xa xb _ ha hbb).mono ?_
      rintro e w3 ⟨rfl, k3⟩
      refine hK _ _ ⟨fun _ => hS0.trans k3, ?_⟩
      clear hK K
      refine Dp.wpAnyL_rest (by kernel_rfl) ?_
      refine Dp.wpAny_tail 14 rfl (by kernel_rfl) ?_
      simp only [List.drop_succ_cons, List.drop_zero]
      have rr3 := (rr.keep hS0 (fun e => e)).keep k3 (fun e => e)
      have c3 : w3.cell? ⟨w.heap.size, k, none⟩ = some (.int .i64 0) := by rw [rr3.cell]; exact Dp.fill_at _ k n hk2 hjl
      have f3 := rr3.frozen k
      have HR3 : Hid (Dp.Row (w3.setCell ⟨w.heap.size, k, none⟩ (.int .i64 (Dp.sum (1 :: (Dp.two xa ++ Dp.two xb))))) w.heap.size 3 (Dp.regCells ((Dp.join lv).take (k + 1)) ++ List.replicate (n - (k + 1)) (.int .i64 0))) := by
        have h := rr3.set k (.int .i64 (Dp.sum (1 :: (Dp.two xa ++ Dp.two xb))))
        rw [← HG.out, HF.out] at h
        rw [← HG.out]; exact h
      have HK3 : Hid (Dp.Keeps (fun _ => False) w (w3.setCell ⟨w.heap.size, k, none⟩ (.int .i64 (Dp.sum (1 :: (Dp.two xa ++ Dp.two xb)))))) := ((kr.trans hS0).trans k3).setCell (p := ⟨w.heap.size, k, none⟩) (.inl (Nat.le_refl _)) _
      generalize Dp.sum (1 :: (Dp.two xa ++ Dp.two xb)) = sx at *
      clear rr rr3 qa qb e1 e2 t1 t2 b1 b2 b3 b4
      go_wp2
      go_roundw
      case rel => exact ⟨k + 1, by omega, by go_num, HR3.out, HK3.out⟩
      case measure => simp [intOf]; omega
    · obtain rfl : k = n := by omega
      have HR : Hid (Dp.Row wr w.heap.size 3 (Dp.regCells (Dp.join lv))) := by
        unfold Hid
        have h := rr
        rw [List.take_of_length_le (by omega), Nat.sub_self, List.replicate_zero, List.append_nil] at h
        exact h
      clear rr
      go_wp2
      go_ret
      exact ⟨rfl, HR.out, kr⟩

namespace Dp
def lenOf : Value → Nat
  | .slice _ n _ => n
  | _ => 0
theorem level_last (cells : List Int) : level cells 8 = [root cells] := by
  simp [level, root]
theorem pow_half (d : Nat) (hd : d < 8) : 256 / 2 ^ d = 256 / 2 ^ (d + 1) + 256 / 2 ^ (d + 1) ∧ 0 < 256 / 2 ^ (d + 1) ∧ 256 / 2 ^ (d + 1) ≤ 128 := by
  rcases (by omega : d = 0 ∨ d = 1 ∨ d = 2 ∨ d = 3 ∨ d = 4 ∨ d = 5 ∨ d = 6 ∨ d = 7) with rfl | rfl | rfl | rfl | rfl | rfl | rfl | rfl <;> decide
end Dp

set_option maxRecDepth 100000 in
set_option maxHeartbeats 1000000 in
theorem progRoot (w : World) (b o : Nat) (ty : TypeId) (pre post : List Value) (vs : Value) (cells : List Int) (hl : cells.length = 256) (hr : Dp.Row w b ty (pre ++ Dp.memCells vs cells ++ post)) (ho : pre.length = o) (hw : ∀ x ∈ cells, Dp.isWord x) :
    Calls Tryd.prog 34 #[.pointer (some ⟨b, o, none⟩)] w fun e w' => e = .returned (.int .i64 (Dp.root cells)) ∧ Dp.Keeps (fun _ => False) w w' := by
  go_enter Tryd.func34, Tryd.ntmps34
  go_wp2_with fail
  refine (progDigests w b o ty pre post vs cells hl hr ho hw).mono ?_
  rintro e w1 ⟨rfl, r1, k1⟩
  clear hr
  go_wp2
  go_loopw [3] (fun v wr => ∃ d g : Nat, d ≤ 8 ∧ v = .slice (some ⟨g, 0, none⟩) (256 / 2 ^ d) (256 / 2 ^ d) ∧ Dp.Row wr g 3 (Dp.regCells (Dp.level cells d)) ∧ Dp.Keeps (fun _ => False) w wr) (fun v _ => Dp.lenOf v)
  case atStart => exact ⟨0, w.heap.size, Nat.zero_le _, rfl, r1, k1⟩
  case round =>
    obtain ⟨d, g, hd, rfl, rr, kr⟩ := hrel
    by_cases hd8 : d < 8
    · obtain ⟨h1, h2, h3⟩ := Dp.pow_half d hd8
      have hlev : (Dp.level cells d).length = 256 / 2 ^ (d + 1) + 256 / 2 ^ (d + 1) := by rw [Dp.level_length, h1]
      have HJ := Hid.mk_ (Dp.join_level cells d hd8)
      have HB := Hid.mk_ (Dp.level_bd cells d)
      have HE : Hid (256 / 2 ^ (d + 1) = 256 / 2 ^ (d + 1)) := rfl
      rw [h1]
      generalize hN : 256 / 2 ^ (d + 1) = N at *
      have HN := Hid.mk_ hN
      clear hN h1
      go_wp2_with fail
      refine (progJoined wr g (Dp.level cells d) N hlev ⟨h2, h3⟩ rr HB.out).mono ?_
      rintro e w3 ⟨rfl, r3, k3⟩
      rw [HJ.out] at r3
      go_wp2
      go_roundw
      case rel => exact ⟨d + 1, wr.heap.size, by omega, by rw [HN.out], r3, kr.trans k3⟩
      case measure => simp [Dp.lenOf]; omega
    · obtain rfl : d = 8 := by omega
      have h1 : 256 / 2 ^ 8 = 1 := rfl
      rw [h1]
      have hc : wr.cell? ⟨g, 0, none⟩ = some (.int .i64 (Dp.root cells)) := by
        rw [rr.cell, Dp.level_last]; rfl
      have hb := Dp.root_bd cells
      clear rr h1
      go_wp2
      go_ret
      exact ⟨rfl, kr⟩

end Go.Proofs.YtdipojfngdceoaaDoor
