/- Steps on the way: ProgCutProof, ProgRecord, ProgWord. -/
import Derived.Test.YtdipojfngdceoabGreatDoorPack01
import Derived.Test.YtdipojfngdceoabGreatDoorPack04
import Derived.Test.YtdipojfngdceoabGreatDoorPack69
import Derived.Test.YtdipojfngdceoabGreatDoorPack70
import Derived.Test.YtdipojfngdceoabGreatDoorPack72
import Derived.Test.YtdipojfngdceoabGreatDoorProg
import Derived.WalkKit
import Derived.WalkSpells
import Derived.WalkLawsBesides
/- The program's memory of proofs: a proof is cut off a witness. -/
namespace Go.Proofs.YtdipojfngdceoabGreatDoor
open Go.RowKit

namespace Dp
/-- The digests beside the way up, k of them read. -/
def others (l : List UInt8) (k : Nat) : List Int := (List.range k).map fun i => numTo l (4 + 2 * i) 2
def othersTo (l : List UInt8) (k : Nat) : List Int := others l k ++ List.replicate (8 - k) 0
theorem othersTo_put (l : List UInt8) (k : Nat) (hk : k < 8) : (othersTo l k).set k (numTo l (4 + 2 * k) 2) = othersTo l (k + 1) := by
  unfold othersTo others
  rcases (by omega : k = 0 ∨ k = 1 ∨ k = 2 ∨ k = 3 ∨ k = 4 ∨ k = 5 ∨ k = 6 ∨ k = 7) with rfl | rfl | rfl | rfl | rfl | rfl | rfl | rfl <;> rfl
theorem othersTo_length (l : List UInt8) (k : Nat) (hk : k ≤ 8) : (othersTo l k).length = 8 := by unfold othersTo others; simp; omega
theorem othersTo_all (l : List UInt8) : othersTo l 8 = others l 8 := by unfold othersTo; simp
def intCells (l : List Int) : List Value := l.map fun x => Value.int .i64 x
/-- The cells of a proof. -/
def proofCells (word : Int) (os : List Int) : List Value := .int .u32 word :: intCells os
theorem proofCells_length (word : Int) (os : List Int) : (proofCells word os).length = os.length + 1 := by simp [proofCells, intCells]
theorem proofCells_set (word : Int) (os : List Int) (k : Nat) (v : Int) : (proofCells word os).set (1 + k) (.int .i64 v) = proofCells word (os.set k v) := by
  unfold proofCells intCells
  rw [Nat.add_comm 1 k, List.set_cons_succ, List.map_set]
theorem proofCells_one (word : Int) (os : List Int) : ∀ v ∈ proofCells word os, v.oneCell' = true := by
  intro v hv
  simp only [proofCells, intCells, List.mem_cons, List.mem_map] at hv
  rcases hv with rfl | ⟨x, _, rfl⟩ <;> rfl
end Dp
theorem sizeProof : (Tryz.prog.info? 213).map (·.size) = some 9 := by kernel_rfl
theorem zeroProof : (Tryz.prog.info? 213).map (fun i => i.zero) = some (some (.agg (Dp.proofCells 0 [0, 0, 0, 0, 0, 0, 0, 0]).toArray)) := by kernel_rfl

set_option maxRecDepth 100000 in
set_option maxHeartbeats 1000000 in
theorem progCutProof (w0 : World) (p : Nat) (eb : Addr) (l : List UInt8) (w : World) (he : Dp.ErrAt w0 eb) (h : Dp.PartsAt w0 p w l) :
    Calls Tryz.prog 171 #[.pointer (some ⟨p, 0, none⟩)] w fun e w' => Dp.after (if 20 ≤ l.length then some () else none) (e = .panicked (Dp.wrong eb) ∧ Dp.Keeps (fun _ => False) w0 w') fun _ => e = .returned (.agg (Dp.proofCells (Dp.numTo l 0 4) (Dp.others l 8)).toArray) ∧ Dp.PartsAt w0 p w' (l.drop 20) ∧ Dp.Keeps (fun k => k = p) w w' := by
  have hplt : p < w.heap.size := by obtain ⟨v, hr, _⟩ := h.row; exact hr.lt
  have hw0 := h.new
  go_enter Tryz.func171, Tryz.ntmps171
  go_wp2_with (refine Dp.wpList_alloc_row rfl 213 rfl _ zeroProof ?_)
  intro w1 r1 z1 k1
  have hp1 := h.keep k1 (fun e => e) (fun _ _ e => e)
  clear h
  go_wp2_with fail
  refine (progQWord w0 p eb l _ he hp1).mono ?_
  intro e w2 h2
  by_cases h4 : 4 ≤ l.length
  · rw [if_pos h4, Dp.after_some] at h2
    obtain ⟨rfl, hp2, k2, z2⟩ := h2
    have hne : w.heap.size ≠ p := by omega
    have r2 := r1.keep k2 hne
    have kk2 : Dp.Keeps (fun k => k = p) w w2 := (k1.mono (fun _ _ e => e.elim)).trans k2
    have hW := Dp.numTo_bd l 0 4 (Nat.le_refl _)
    clear hp1 r1 k1 k2

    generalize hWW : Dp.numTo l 0 4 = W at *
    go_wp2_with (refine Dp.wpList_alloc_row rfl 213 rfl _ zeroProof ?_)
    intro w3 r3 z3 k3
    have r3' : Dp.Row w3 (w.heap.size + 1) 213 ([] ++ Dp.proofCells 0 [0, 0, 0, 0, 0, 0, 0, 0] ++ []) := by rw [List.append_nil, List.nil_append]; exact r3
    go_wp2_with (refine Dp.wpList_store_in rfl 213 _ _ rfl (w.heap.size + 1) 0 rfl (Dp.proofCells W [0, 0, 0, 0, 0, 0, 0, 0]) rfl 213 [] _ [] r3' rfl rfl (by rw [sizeProof]; rfl) (Dp.proofCells_one _ _) ?_)
    intro w4 r4 z4 k4
    have rz := (r2.keep k3 (fun e => e)).keep k4 (show w.heap.size ≠ w.heap.size + 1 by omega)
    have hp4 := (hp2.keep k3 (fun e => e) (fun _ _ e => e)).keep k4 (show p ≠ w.heap.size + 1 by omega) (fun i hi e => by omega)
    have kk4 : Dp.Keeps (fun k => k = p) w w4 := (kk2.trans (k3.mono (fun _ _ e => e.elim))).next k4 (fun i hi e => by omega)
    clear r2 hp2 k3 k4 r3 r3' kk2
    go_wp2
    go_loopw [4, 8] (fun _ i wr => ∃ k : Nat, k ≤ 8 ∧ i = .int .i64 k ∧ 4 + 2 * k ≤ l.length ∧ Dp.PartsAt w0 p wr (l.drop (4 + 2 * k)) ∧ Dp.Row wr (w.heap.size + 1) 213 (Dp.proofCells W (Dp.othersTo l k)) ∧ Dp.Row wr w.heap.size 213 (Dp.proofCells 0 [0, 0, 0, 0, 0, 0, 0, 0]) ∧ Dp.Keeps (fun k => k = p) w wr) (fun _ i _ => 8 - (intOf i).toNat)
    case atStart => exact ⟨0, Nat.zero_le _, rfl, h4, hp4, r4, rz, kk4⟩
    case round =>
      obtain ⟨k, hk, rfl, hlk, hpk, rk, rzk, kkk⟩ := hrel
      clear hp4 r4 rz kk4
      by_cases hlt : k < 8
      · go_wp2_with fail
        refine (progQTwo w0 p eb (l.drop (4 + 2 * k)) _ he hpk).mono ?_
        intro e w5 h5
        have hdl : (l.drop (4 + 2 * k)).length = l.length - (4 + 2 * k) := List.length_drop
        by_cases h6 : 4 + 2 * (k + 1) ≤ l.length
        · rw [if_pos (by omega), Dp.after_some] at h5
          obtain ⟨rfl, hp5, k5, z5⟩ := h5
          have HP : Hid (Dp.PartsAt w0 p w5 (l.drop (4 + 2 * (k + 1)))) := by
            unfold Hid; have := hp5; rw [List.drop_drop] at this; exact this
          have HN : Hid (Dp.numTo (l.drop (4 + 2 * k)) 0 2 = Dp.numTo l (4 + 2 * k) 2) := Dp.numTo_drop _ _ _ _
          have HB : Hid ((Dp.othersTo l k).set k (Dp.numTo l (4 + 2 * k) 2) = Dp.othersTo l (k + 1)) := Dp.othersTo_put l k hlt
          have r5 := rk.keep k5 (show ¬ (w.heap.size + 1 = p) by omega)
          have rz5 := rzk.keep k5 hne
          have hol := Dp.othersTo_length l k hk
          have c5 : w5.cell? ⟨w.heap.size + 1, 1 + k, none⟩ = some (.int .i64 ((Dp.othersTo l k).getD k 0)) := by
            rw [r5.cell]; unfold Dp.proofCells Dp.intCells
            rw [Nat.add_comm 1 k, List.getElem?_cons_succ]
            simp [hol, hlt]
          have f5 := r5.frozen (1 + k)
          rw [HN.out]
          have HR : Hid (Dp.Row (w5.setCell ⟨w.heap.size + 1, 1 + k, none⟩ (.int .i64 (Dp.numTo l (4 + 2 * k) 2))) (w.heap.size + 1) 213 (Dp.proofCells W (Dp.othersTo l (k + 1)))) := by
            have h := r5.set (1 + k) (.int .i64 (Dp.numTo l (4 + 2 * k) 2))
            rw [Dp.proofCells_set, HB.out] at h
            exact h
          have HZ : Hid (Dp.Row (w5.setCell ⟨w.heap.size + 1, 1 + k, none⟩ (.int .i64 (Dp.numTo l (4 + 2 * k) 2))) w.heap.size 213 (Dp.proofCells 0 [0, 0, 0, 0, 0, 0, 0, 0])) := rz5.setOther _ _ (show w.heap.size ≠ w.heap.size + 1 by omega)
          have HK : Hid (Dp.Keeps (fun k => k = p) w (w5.setCell ⟨w.heap.size + 1, 1 + k, none⟩ (.int .i64 (Dp.numTo l (4 + 2 * k) 2)))) := (kkk.trans k5).setCell (p := ⟨w.heap.size + 1, 1 + k, none⟩) (.inl (Nat.le_succ _)) _
          have HQ : Hid (Dp.PartsAt w0 p (w5.setCell ⟨w.heap.size + 1, 1 + k, none⟩ (.int .i64 (Dp.numTo l (4 + 2 * k) 2))) (l.drop (4 + 2 * (k + 1)))) :=
            HP.out.keep (S := fun k => k = w.heap.size + 1) (Dp.Keeps.setCell (S := fun k => k = w.heap.size + 1) (p := ⟨w.heap.size + 1, 1 + k, none⟩) (Dp.Keeps.refl _ _) (.inr rfl) _) (show p ≠ w.heap.size + 1 by omega) (fun i hi e => by omega)
          generalize Dp.numTo l (4 + 2 * k) 2 = O at *
          clear rk rzk r5 rz5 hp5 hpk k5 kkk
          go_wp2
          go_roundw
          case rel => exact ⟨k + 1, by omega, by go_num, h6, HQ.out, HR.out, HZ.out, HK.out⟩
          case measure => simp [intOf]; omega
        · rw [if_neg (by omega), Dp.after_none] at h5
          obtain ⟨rfl, rfl⟩ := h5
          exact ⟨rfl, by rw [if_neg (by omega)]; exact ⟨rfl, hpk.kept⟩⟩
      · obtain rfl : k = 8 := by omega
        have h20 : 20 ≤ l.length := by omega
        rw [show ((8 : Nat) : Int) = 8 from rfl]
        have rk' : Dp.Row wr (w.heap.size + 1) 213 ([] ++ Dp.proofCells W (Dp.others l 8) ++ []) := by
          rw [List.append_nil, List.nil_append, ← Dp.othersTo_all]; exact rk
        have rz' : Dp.Row wr w.heap.size 213 ([] ++ Dp.proofCells 0 [0, 0, 0, 0, 0, 0, 0, 0] ++ []) := by
          rw [List.append_nil, List.nil_append]; exact rzk
        have HM : Hid ((Dp.proofCells W (Dp.others l 8)).length = 9) := by unfold Hid; rw [Dp.proofCells_length]; simp [Dp.others]
        generalize hOS : Dp.others l 8 = OS at *
        clear rk rzk
        have HRK := Hid.mk_ rk'
        have HRZ := Hid.mk_ rz'
        clear rk' rz'
        go_wp2_with (first | (refine Dp.wpList_store_in rfl 213 _ _ rfl w.heap.size 0 rfl (Dp.proofCells W OS) rfl 213 [] _ [] HRZ.out rfl (HM.out.trans rfl) (by rw [sizeProof, HM.out]) (Dp.proofCells_one _ _) ?_) | (refine Dp.wpList_load_in rfl 213 _ rfl (w.heap.size + 1) 0 rfl 213 [] _ [] HRK.out rfl _ Tryz.underlying213 rfl (by rw [sizeProof, HM.out]) ?_; intro _))
        intro w6 r6 z6 k6
        have hp6 := hpk.keep k6 (show p ≠ w.heap.size by omega) (fun i hi e => by omega)
        have kk6 : Dp.Keeps (fun k => k = p) w w6 := kkk.next k6 (fun i hi e => by omega)
        go_wp2
        refine bodyPost_ret (v := .agg (Dp.proofCells W OS).toArray) (results_cell_row rfl _ _ w.heap.size 213 _ (0, 0) _ rfl r6 Tryz.underlying213 rfl (by rw [sizeProof, List.size_toArray, HM.out])) rfl ?_
        first | rw [if_pos h20, Dp.after_some] | rw [Dp.after_some]
        exact ⟨by first | rfl | rw [hOS] | rw [hOS, hWW], hp6, kk6⟩
  · rw [if_neg h4, Dp.after_none] at h2
    obtain ⟨rfl, k2⟩ := h2
    exact ⟨rfl, by rw [if_neg (by omega)]; exact ⟨rfl, k2⟩⟩
end Go.Proofs.YtdipojfngdceoabGreatDoor

/- The program's proof of a cell, and its bytes. -/
namespace Go.Proofs.YtdipojfngdceoabGreatDoor
open Go.RowKit

namespace Dp
/-- The digests beside a cell, the first k of them. -/
def besideTo (cells : List Int) (n k : Nat) : List Int := (List.range 8).map fun j => if j < k then digest cells (sib n j) j else 0
theorem besideTo_length (cells : List Int) (n k : Nat) : (besideTo cells n k).length = 8 := by simp [besideTo]
theorem besideTo_zero (cells : List Int) (n : Nat) : besideTo cells n 0 = [0, 0, 0, 0, 0, 0, 0, 0] := by
  simp [besideTo]; rfl
theorem besideTo_set (cells : List Int) (n k : Nat) : (besideTo cells n k).set k (digest cells (sib n k) k) = besideTo cells n (k + 1) := by
  apply List.ext_getElem
  · simp [besideTo]
  · intro i h1 h2
    rw [List.getElem_set]
    simp only [besideTo, List.getElem_map, List.getElem_range]
    by_cases e : k = i
    · subst e; simp
    · rw [if_neg e]
      by_cases h : i < k
      · rw [if_pos h, if_pos (by omega)]
      · rw [if_neg h, if_neg (by omega)]
theorem besideTo_bd (cells : List Int) (n k : Nat) : ∀ x ∈ besideTo cells n k, 0 ≤ x ∧ x < 65536 := by
  intro x hx
  simp only [besideTo, List.mem_map] at hx
  obtain ⟨j, _, rfl⟩ := hx
  split
  · have := digest_bd cells (sib n j) j; omega
  · omega
theorem xor_one (a : Nat) (h : a < 256) : Go.bits .xor .u32 (a : Int) 1 = ((if a % 2 = 0 then a + 1 else a - 1 : Nat) : Int) := by
  have : ∀ a : Fin 256, Go.bits .xor .u32 ((a : Nat) : Int) 1 = ((if (a : Nat) % 2 = 0 then (a : Nat) + 1 else (a : Nat) - 1 : Nat) : Int) := by decide +kernel
  exact this ⟨a, h⟩
/-- The digest beside a cell's, in its level. -/
theorem level_sib (cells : List Int) (n k : Nat) (hn : n < 256) (hk : k < 8) : (if n / 2 ^ k % 2 = 0 then n / 2 ^ k + 1 else n / 2 ^ k - 1) < 256 / 2 ^ k ∧ (level cells k).getD (if n / 2 ^ k % 2 = 0 then n / 2 ^ k + 1 else n / 2 ^ k - 1) 0 = digest cells (sib n k) k := by
  have hlt : (if n / 2 ^ k % 2 = 0 then n / 2 ^ k + 1 else n / 2 ^ k - 1) < 256 / 2 ^ k := by
    rcases (by omega : k = 0 ∨ k = 1 ∨ k = 2 ∨ k = 3 ∨ k = 4 ∨ k = 5 ∨ k = 6 ∨ k = 7) with rfl | rfl | rfl | rfl | rfl | rfl | rfl | rfl <;> simp only [Nat.reducePow, Nat.reduceDiv] <;> split <;> omega
  refine ⟨hlt, ?_⟩
  rw [level_getD cells k _ hlt]
  congr 1
  unfold sib
  by_cases h : n / 2 ^ k % 2 = 0
  · rw [if_pos h, if_pos h, Nat.add_mul, Nat.one_mul]
  · rw [if_neg h, if_neg h, Nat.sub_mul, Nat.one_mul]
end Dp

set_option maxRecDepth 100000 in
set_option maxHeartbeats 1000000 in
theorem progCProof (w : World) (b o : Nat) (ty : TypeId) (pre post : List Value) (vs : Value) (cells : List Int) (n : Nat) (hl : cells.length = 256) (hr : Dp.Row w b ty (pre ++ Dp.memCells vs cells ++ post)) (ho : pre.length = o) (hw : ∀ x ∈ cells, Dp.isWord x) (hn : n < 256) :
    Calls Tryz.prog 164 #[.pointer (some ⟨b, o, none⟩), .int .u32 n] w fun e w' => e = .returned (.agg (Dp.proofCells (cells.getD n 0) (Dp.besideTo cells n 8)).toArray) ∧ Dp.Keeps (fun _ => False) w w' := by
  go_enter Tryz.func164, Tryz.ntmps164
  go_wp2_with (refine Dp.wpList_alloc_row rfl 213 rfl _ zeroProof ?_)
  intro w1 r1 z1 k1
  have hr1 := hr.keep k1 (fun e => e)
  have c := Dp.memCells_word hr1 ho n (by omega)
  have hx : Dp.isWord (cells.getD n 0) := by
    rw [List.getD_eq_getElem?_getD, List.getElem?_eq_getElem (by omega)]; exact hw _ (List.getElem_mem _)
  have HX := Hid.mk_ hx
  have HO0 := Hid.mk_ (Dp.besideTo_zero cells n)
  generalize hCX : cells.getD n 0 = cx at *
  have HCX := Hid.mk_ hCX
  clear hCX
  have HR1 := Hid.mk_ r1
  have HH1 := Hid.mk_ hr1
  clear hr r1 hr1 hx
  go_wp2_with (refine Dp.wpList_alloc_row rfl 213 rfl _ zeroProof ?_)
  intro w2 r2 z2 k2
  have HR2 : Hid (Dp.Row w2 (w.heap.size + 1) 213 ([] ++ Dp.proofCells 0 [0, 0, 0, 0, 0, 0, 0, 0] ++ [])) := Dp.row_nil r2
  clear r2
  go_wp2_with (refine Dp.wpList_store_in rfl 213 _ _ rfl (w.heap.size + 1) 0 rfl (Dp.proofCells cx [0, 0, 0, 0, 0, 0, 0, 0]) rfl 213 [] (Dp.proofCells 0 [0, 0, 0, 0, 0, 0, 0, 0]) [] HR2.out rfl rfl (by rw [sizeProof]; rfl) (Dp.proofCells_one _ _) ?_)
  intro w3 r3 z3 k3
  have HR3 : Hid (Dp.Row w3 (w.heap.size + 1) 213 (Dp.proofCells cx (Dp.besideTo cells n 0))) := by unfold Hid; rw [HO0.out]; simpa using r3
  have HZ3 := Hid.mk_ ((HR1.out.keep k2 (fun e => e)).keep k3 (fun e => by omega))
  have k23 : Dp.Keeps (fun _ => False) w1 w3 := (k2.next k3 (fun i hi e => by omega))
  have HK3 : Hid (Dp.Keeps (fun _ => False) w w3) := k1.trans k23
  have HH3 := Hid.mk_ (HH1.out.keep k23 (fun e => e))
  clear r3 k1 k2 k3 k23 z1 z2 z3 HR1 HR2 HH1 c HO0
  go_wp2_with fail
  refine (progDigests w3 b o ty pre post vs cells hl HH3.out ho hw).mono ?_
  rintro e w4 ⟨rfl, r4, k4⟩
  have HL4 := Hid.mk_ r4
  have HR4 := Hid.mk_ (HR3.out.keep k4 (fun e => e))
  have HZ4 := Hid.mk_ (HZ3.out.keep k4 (fun e => e))
  have HK4 := Hid.mk_ (HK3.out.trans k4)
  clear r4 k4 HR3 HZ3 HK3 HH3
  go_wp2
  go_loopw [1, 6, 7, 17] (fun a lv _ i wr => ∃ k g : Nat, k ≤ 8 ∧ i = .int .i64 k ∧ a = .int .u32 ((n / 2 ^ k : Nat) : Int) ∧ lv = .slice (some ⟨g, 0, none⟩) (256 / 2 ^ k) (256 / 2 ^ k) ∧ Dp.Row wr g 3 (Dp.regCells (Dp.level cells k)) ∧ Dp.Row wr (w.heap.size + 1) 213 (Dp.proofCells cx (Dp.besideTo cells n k)) ∧ Dp.Row wr w.heap.size 213 (Dp.proofCells 0 [0, 0, 0, 0, 0, 0, 0, 0]) ∧ Dp.Keeps (fun _ => False) w wr) (fun _ _ _ i _ => 8 - (intOf i).toNat)
  case atStart => exact ⟨0, w3.heap.size, Nat.zero_le _, rfl, by simp, rfl, HL4.out, HR4.out, HZ4.out, HK4.out⟩
  case round =>
    obtain ⟨k, g, hk, rfl, rfl, rfl, rl, rp, rz, kr⟩ := hrel
    clear HL4 HR4 HZ4 HK4
    by_cases hk8 : k < 8
    · obtain ⟨h1, h2, h3⟩ := Dp.pow_half k hk8
      have hlev : (Dp.level cells k).length = 256 / 2 ^ (k + 1) + 256 / 2 ^ (k + 1) := by rw [Dp.level_length, h1]
      have HJ := Hid.mk_ (Dp.join_level cells k hk8)
      have HB := Hid.mk_ (Dp.level_bd cells k)
      obtain ⟨hs1, hs2⟩ := Dp.level_sib cells n k hn hk8
      have hlenk := Dp.level_length cells k
      have hcs := Dp.regCells_at rl _ (by rw [hlenk]; exact hs1)
      rw [hs2] at hcs
      have hxo := Dp.xor_one (n / 2 ^ k) (Nat.lt_of_le_of_lt (Nat.div_le_self _ _) hn)
      have HS := Hid.mk_ (Dp.besideTo_set cells n k)
      have HBD := Hid.mk_ (Dp.digest_bd cells (Dp.sib n k) k)
      have HDD : Hid (n / 2 ^ (k + 1) = n / 2 ^ k / 2) := by unfold Hid; rw [Nat.pow_succ, Nat.div_div_eq_div_mul]
      have hnk : n / 2 ^ k < 256 := Nat.lt_of_le_of_lt (Nat.div_le_self _ _) hn
      rw [h1] at hs1 ⊢
      generalize hN : 256 / 2 ^ (k + 1) = N at *
      have HN := Hid.mk_ hN
      generalize n / 2 ^ k = a at *
      generalize (if a % 2 = 0 then a + 1 else a - 1) = x at *
      generalize Dp.digest cells (Dp.sib n k) k = D at *
      have cp : wr.cell? ⟨w.heap.size + 1, 1 + k, none⟩ = (Dp.proofCells cx (Dp.besideTo cells n k))[1 + k]? := rp.cell _
      have cp' : wr.cell? ⟨w.heap.size + 1, 1 + k, none⟩ = some ((Dp.proofCells cx (Dp.besideTo cells n k)).getD (1 + k) undef) := by
        rw [cp, List.getD_eq_getElem?_getD, List.getElem?_eq_getElem (by rw [Dp.proofCells_length, Dp.besideTo_length]; omega)]; rfl
      have fp := rp.frozen (1 + k)
      have hp1 := rp.lt
      have hgne : ¬ g = w.heap.size + 1 := rl.ne rp (by decide)
      have HRP : Hid (Dp.Row (wr.setCell ⟨w.heap.size + 1, 1 + k, none⟩ (.int .i64 D)) (w.heap.size + 1) 213 (Dp.proofCells cx (Dp.besideTo cells n (k + 1)))) := by
        have h := rp.set (1 + k) (.int .i64 D)
        rw [Dp.proofCells_set, HS.out] at h
        exact h
      have HRL : Hid (Dp.Row (wr.setCell ⟨w.heap.size + 1, 1 + k, none⟩ (.int .i64 D)) g 3 (Dp.regCells (Dp.level cells k))) := rl.setOther _ _ hgne
      have HRZ : Hid (Dp.Row (wr.setCell ⟨w.heap.size + 1, 1 + k, none⟩ (.int .i64 D)) w.heap.size 213 (Dp.proofCells 0 [0, 0, 0, 0, 0, 0, 0, 0])) := rz.setOther _ _ (show w.heap.size ≠ w.heap.size + 1 by omega)
      have HKR : Hid (Dp.Keeps (fun _ => False) w (wr.setCell ⟨w.heap.size + 1, 1 + k, none⟩ (.int .i64 D))) := kr.setCell (p := ⟨w.heap.size + 1, 1 + k, none⟩) (.inl (show w.heap.size ≤ w.heap.size + 1 by omega)) _
      clear cp rp rl rz kr hlenk hN h1 hs2
      generalize (Dp.proofCells cx (Dp.besideTo cells n k)).getD (1 + k) undef = pv at *
      go_wp2_with fail
      refine (progJoined _ g (Dp.level cells k) N hlev ⟨h2, h3⟩ HRL.out HB.out).mono ?_
      rintro e w6 ⟨rfl, r6, k6⟩
      rw [HJ.out] at r6
      have HR6 := Hid.mk_ r6
      have HP6 := Hid.mk_ (HRP.out.keep k6 (fun e => e))
      have HZ6 := Hid.mk_ (HRZ.out.keep k6 (fun e => e))
      have HK6 := Hid.mk_ (HKR.out.trans k6)
      clear r6 k6 HRP HRL HRZ HKR hcs cp' fp
      go_wp2
      go_roundw
      case rel =>
        refine ⟨k + 1, _, by omega, by go_num, ?_, ?_, HR6.out, HP6.out, HZ6.out, HK6.out⟩
        · rw [HDD.out]; simp
        · rw [HN.out]; simp
      case measure => simp [intOf]; omega
    · obtain rfl : k = 8 := by omega
      have HRP : Hid (Dp.Row wr (w.heap.size + 1) 213 ([] ++ Dp.proofCells cx (Dp.besideTo cells n 8) ++ [])) := Dp.row_nil rp
      have HRZ : Hid (Dp.Row wr w.heap.size 213 ([] ++ Dp.proofCells 0 [0, 0, 0, 0, 0, 0, 0, 0] ++ [])) := Dp.row_nil rz
      have HM : Hid ((Dp.proofCells cx (Dp.besideTo cells n 8)).length = 9) := by unfold Hid; rw [Dp.proofCells_length, Dp.besideTo_length]
      clear rl rp rz
      go_wp2_with (first | (refine Dp.wpList_store_in rfl 213 _ _ rfl w.heap.size 0 rfl (Dp.proofCells cx (Dp.besideTo cells n 8)) rfl 213 [] (Dp.proofCells 0 [0, 0, 0, 0, 0, 0, 0, 0]) [] HRZ.out rfl (HM.out.trans rfl) (by rw [sizeProof, HM.out]) (Dp.proofCells_one _ _) ?_) | (refine Dp.wpList_load_in rfl 213 _ rfl (w.heap.size + 1) 0 rfl 213 [] _ [] HRP.out rfl _ Tryz.underlying213 rfl (by rw [sizeProof, HM.out]) ?_; intro _))
      intro w8 r8 z8 k8
      have r8' : Dp.Row w8 w.heap.size 213 (Dp.proofCells cx (Dp.besideTo cells n 8)) := by simpa using r8
      go_wp2
      refine bodyPost_ret (v := .agg (Dp.proofCells cx (Dp.besideTo cells n 8)).toArray) (results_cell_row rfl _ _ w.heap.size 213 _ (0, 0) _ rfl r8' Tryz.underlying213 rfl (by rw [sizeProof, List.size_toArray, HM.out])) rfl ?_
      rw [HCX.out]
      exact ⟨rfl, kr.next k8 (fun i hi e => by omega)⟩
end Go.Proofs.YtdipojfngdceoabGreatDoor

/- The program's core: the word of the four bytes of a source from a place on. -/
namespace Go.Proofs.YtdipojfngdceoabGreatDoor
open Go.RowKit

namespace Dp
/-- The first k bytes of the word at a place. -/
def toldN (l : List UInt8) (at_ : Int) : Nat → Int
  | 0 => 0
  | k + 1 => toldN l at_ k * 256 + byteAt l (at_ + k)
theorem told_four (l : List UInt8) (at_ : Int) : toldN l at_ 4 = told l at_ := by
  unfold told
  simp only [toldN, Int.zero_mul, Int.zero_add, Int.ofNat_zero, Int.add_zero]
  simp
theorem toldN_bd (l : List UInt8) (at_ : Int) : ∀ k, 0 ≤ toldN l at_ k ∧ toldN l at_ k < 256 ^ k
  | 0 => by simp [toldN]
  | k + 1 => by
    have h := toldN_bd l at_ k
    have hb := byteAt_bd l (at_ + k)
    have e : (256 : Int) ^ (k + 1) = 256 ^ k * 256 := Int.pow_succ 256 k
    simp only [toldN]
    rw [e]
    generalize (256 : Int) ^ k = q at *
    omega
theorem or_byte (x b : Int) (hx : 0 ≤ x ∧ x < 16777216) (hb : 0 ≤ b ∧ b < 256) : Go.bits .or .u32 (x * 256) b = x * 256 + b := by
  obtain ⟨k, rfl⟩ := Int.eq_ofNat_of_zero_le hx.1
  obtain ⟨j, rfl⟩ := Int.eq_ofNat_of_zero_le hb.1
  have h := (bits_u32_nat (k * 256) j (by omega) (by omega)).2.1
  rw [show ((k * 256 : Nat) : Int) = (k : Int) * 256 by simp] at h
  rw [h]
  have e : k * 256 ||| j = k * 256 + j := by
    have := Nat.two_pow_add_eq_or_of_lt (i := 8) (b := j) (by omega) k
    rw [show (2 : Nat) ^ 8 = 256 from rfl, Nat.mul_comm] at this
    exact this.symm
  rw [e]; simp
end Dp

set_option maxRecDepth 100000 in
set_option maxHeartbeats 1000000 in
theorem progWordAt (v : Value) (l : List UInt8) (place : Int) (w : World) (hv : Dp.Bytes w v l) (hp : Dp.isWord place) :
    Calls Tryz.prog 141 #[v, .int .u32 place] w fun e w' => e = .returned (.int .u32 (Dp.told l place)) ∧ w' = w := by
  obtain ⟨b, o, ad, cap, rfl, hlen, hne, hcells⟩ := hv
  unfold maxLen at hlen
  unfold Dp.isWord at hp
  have HC := Hid.mk_ hcells
  have HN := Hid.mk_ hne
  clear hcells hne
  go_enter Tryz.func141, Tryz.ntmps141
  go_wp2
  go_loop [5, 6, 7, 8] (fun x _ _ i => ∃ k : Nat, k ≤ 4 ∧ i = .int .u64 k ∧ x = .int .u32 (Dp.toldN l place k)) (fun _ _ _ i => 4 - (intOf i).toNat)
  case atStart => exact ⟨0, by omega, rfl, rfl⟩
  case round =>
    obtain ⟨k, hk, rfl, rfl⟩ := hrel
    by_cases hlt : k < 4
    · have hb := Dp.toldN_bd l place k
      have hb2 : Dp.toldN l place k < 16777216 := by
        have : (256 : Int) ^ k ≤ 16777216 := by
          rcases (by omega : k = 0 ∨ k = 1 ∨ k = 2 ∨ k = 3) with rfl | rfl | rfl | rfl <;> decide
        omega
      have HT : Hid (Dp.toldN l place (k + 1) = Dp.toldN l place k * 256 + Dp.byteAt l (place + k)) := rfl
      by_cases hin : place + k < l.length
      · have hbb : Dp.byteAt l (place + k) = ((l[(place + k).toNat]'(by omega)).toNat : Int) := by
          unfold Dp.byteAt
          rw [if_pos hin, List.getD_eq_getElem?_getD, List.getElem?_eq_getElem (by omega)]
          rfl
        have had := HN.out (by intro e; simp [e] at hin; omega)
        subst had
        have hc := HC.out (place + k).toNat (by omega)
        rw [← hbb] at hc
        have hby := Dp.byteAt_bd l (place + k)
        have HO := Hid.mk_ (Dp.or_byte (Dp.toldN l place k) (Dp.byteAt l (place + k)) ⟨hb.1, hb2⟩ hby)
        have hb0 := hb.1
        clear hb hbb
        generalize Dp.toldN l place k = t at *
        generalize Dp.byteAt l (place + k) = bt at *
        go_wp2
        go_round
        case rel => exact ⟨k + 1, by omega, by go_num, by rw [HT.out, ← HO.out]⟩
        case measure => simp [intOf]; omega
      · have hbb : Dp.byteAt l (place + k) = 0 := by unfold Dp.byteAt; rw [if_neg hin]
        have hb0 := hb.1
        rw [hbb] at HT
        clear hb hbb
        generalize Dp.toldN l place k = t at *
        go_wp2
        go_round
        case rel => exact ⟨k + 1, by omega, by go_num, by rw [HT.out]; go_num⟩
        case measure => simp [intOf]; omega
    · obtain rfl : k = 4 := by omega
      go_wp2
      go_ret
      exact ⟨Dp.ret_int (by rw [Dp.told_four]), rfl⟩

end Go.Proofs.YtdipojfngdceoabGreatDoor
