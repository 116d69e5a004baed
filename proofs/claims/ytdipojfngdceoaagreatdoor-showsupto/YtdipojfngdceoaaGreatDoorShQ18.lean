/- Steps on the way: RefNew, RefRooted. -/
import Derived.Test.YtdipojfngdceoaaGreatDoorShQ02
import Derived.Test.YtdipojfngdceoaaGreatDoorShQ09
import Derived.Test.YtdipojfngdceoaaGreatDoorShQ17
import Derived.Deep.RegionHeld3
import Derived.Test.YtdipojfngdceoaaGreatDoorProg
import Derived.WalkKit
import Derived.WalkSpells
import Derived.WalkLawsBesides
namespace Go.Proofs.YtdipojfngdceoaaGreatDoor
open Go.RowKit
attribute [local go_sem ↓] Go.wp_at_zero Go.wp_at_succ
set_option maxRecDepth 100000 in
set_option maxHeartbeats 2000000 in
theorem refNew (w : World) (vW vS : Value) (words : List Int) (srcs : List (List UInt8)) (hW : Dp.Ints w vW words) (hS : Dp.Texts w vS srcs) :
  Calls Tryz.prog 30 #[vW, vS] w fun e w' => Dp.Keeps (fun _ => False) w w' ∧
   ((Dp.newOk words srcs = false ∧ e = .returned (.pointer none)) ∨ (Dp.newOk words srcs = true ∧ ∃ p g vs, e = .returned (.pointer (some ⟨p, 0, none⟩)) ∧ w.heap.size ≤ p ∧ w.heap.size ≤ g ∧ (∀ q, vs.ownBlock = some q → w.heap.size ≤ q) ∧ Dp.RefM w' p g vs (Dp.newMach words srcs))) := by
 obtain ⟨b, o, ad, cap, rfl, hwl, hne, hcells⟩ := hW
 obtain ⟨b2, o2, ad2, cap2, rfl, hsl, hne2, hcells2⟩ := hS
 by_cases hlen : 256 < words.length
 ·have HB : Hid (Dp.newOk words srcs = false) := by unfold Hid Dp.newOk; simp; omega
  go_enter Tryz.func30, Tryz.ntmps30
  go_wp2
  go_ret
  exact ⟨Dp.Keeps.refl _ _, .inl ⟨HB.out, rfl⟩⟩
 by_cases hlen2 : 8 < srcs.length
 ·have HB : Hid (Dp.newOk words srcs = false) := by unfold Hid Dp.newOk; simp; omega
  go_enter Tryz.func30, Tryz.ntmps30
  go_wp2
  go_ret
  exact ⟨Dp.Keeps.refl _ _, .inl ⟨HB.out, rfl⟩⟩
 go_enter Tryz.func30, Tryz.ntmps30
 go_wp2_with (at_make; refine Dp.wpList_make_row _ rfl _ _ 22 rfl 3 (.int .i64 0) 8 Tryz.underlying22 infoInt rfl _ _ _ _ 256 rfl rfl (by omega) (by omega) (by omega) (by unfold maxLen; omega) ?_)
 intro w1 r1 z1 k1
 go_wp2_with (refine Dp.wpList_box_row rfl 113 _ rfl (Dp.refCells Dp.zeroCs 0 false (.slice (some ⟨w.heap.size, 0, none⟩) 256 256) (.slice none 0 0)) rfl ?_)
 intro w2 r2 z2 k2
 have g2 : Dp.Row w2 w.heap.size 3 (Dp.regCells (Dp.firstWords words 0)) := r1.keep k2 (fun e => e)
 have p2 : Dp.Row w2 (w.heap.size + 1) 113 (Dp.refCells Dp.zeroCs 0 false (.slice (some ⟨w.heap.size, 0, none⟩) 256 256) (.slice none 0 0)) := r2
 have kk2 : Dp.Keeps (fun _ => False) w w2 := k1.trans k2
 clear r1 z1 k1 r2 z2 k2
 go_wp2
 go_loopw [6] (fun i wr => ∃ k : Nat, k ≤ words.length ∧ i = .int .i64 k ∧ (∀ j (_ : j < k) (h : j < words.length), Dp.isWord words[j]) ∧ Dp.Row wr w.heap.size 3 (Dp.regCells (Dp.firstWords words k)) ∧ Dp.Row wr (w.heap.size + 1) 113 (Dp.refCells Dp.zeroCs 0 false (.slice (some ⟨w.heap.size, 0, none⟩) 256 256) (.slice none 0 0)) ∧ Dp.Keeps (fun _ => False) w wr) (fun i _ => words.length - (intOf i).toNat)
 case atStart => exact ⟨0, Nat.zero_le _, rfl, fun j hj => absurd hj (by omega), g2, p2, kk2⟩
 case round =>
  obtain ⟨k, hk, rfl, hno, gr, pr, kr⟩ := hrel
  clear g2 p2 kk2
  have HNO := Hid.mk_ hno
  clear hno
  by_cases hlt : k < words.length
  ·obtain ⟨rfl, hb⟩ := hne (by intro e; simp [e] at hlt)
   have ck : wr.cell? ⟨b, o + k, none⟩ = some (.int .i64 words[k]) := by rw [kr.cell hb (fun e => e)]; exact hcells k hlt
   by_cases hw : Dp.isWord words[k]
   ·have HW := Hid.mk_ hw
    unfold Dp.isWord at hw
    have hw0 : ¬ words[k] < 0 := by omega
    have hw1 : ¬ 4294967296 ≤ words[k] := by omega
    have c14 := (pr.refC rfl).2.2.2.2.2.2.1
    obtain ⟨u, cg⟩ : ∃ u, wr.cell? ⟨w.heap.size, k, none⟩ = some u := ⟨_, gr.cellAt k (by simp [Dp.regCells, Dp.firstWords_length words k hk (by omega)]; omega)⟩
    have fg := gr.frozen k
    have hbN : b ≠ w.heap.size := by omega
    have hbN1 : b ≠ w.heap.size + 1 := by omega
    have HG : Hid (Dp.Row (wr.setCell ⟨w.heap.size, k, none⟩ (.int .i64 words[k])).drew w.heap.size 3 (Dp.regCells (Dp.firstWords words (k + 1)))) := by
     have h := (gr.set k (.int .i64 words[k])).drew
     have e : (Dp.regCells (Dp.firstWords words k)).set k (.int .i64 words[k]) = Dp.regCells (Dp.firstWords words (k + 1)) := by
      rw [← Dp.firstWords_step words k hlt (by omega)]; simp [Dp.regCells, List.map_set]
     rw [e] at h; exact h
    have HP : Hid (Dp.Row (wr.setCell ⟨w.heap.size, k, none⟩ (.int .i64 words[k])).drew (w.heap.size + 1) 113 (Dp.refCells Dp.zeroCs 0 false (.slice (some ⟨w.heap.size, 0, none⟩) 256 256) (.slice none 0 0))) := (pr.setOther _ _ (show w.heap.size + 1 ≠ w.heap.size by omega)).drew
    have HK : Hid (Dp.Keeps (fun _ => False) w (wr.setCell ⟨w.heap.size, k, none⟩ (.int .i64 words[k])).drew) := (kr.setCell (.inl (Nat.le_refl _)) _).drew
    clear gr pr kr hne hcells
    go_wp2
    go_region
    go_wp2
    go_roundw
    case rel => exact ⟨k + 1, by omega, by go_num, fun j hj hj' => by
     by_cases e : j = k
     ·subst e; exact HW.out
     ·exact HNO.out j (by omega) hj', HG.out, HP.out, HK.out⟩
    case measure => simp [intOf]; omega
   ·have HB : Hid (Dp.newOk words srcs = false) := by
     unfold Hid Dp.newOk
     have : words.all (fun x => decide (0 ≤ x) && decide (x < 4294967296)) = false := by
      rw [List.all_eq_false]
      exact ⟨words[k], List.getElem_mem hlt, by unfold Dp.isWord at hw; simp; omega⟩
     rw [this]; simp
    unfold Dp.isWord at hw
    by_cases hw0 : words[k] < 0
    ·go_wp2
     go_ret
     exact ⟨kr, .inl ⟨HB.out, rfl⟩⟩
    ·have hw1 : 4294967296 ≤ words[k] := by omega
     go_wp2
     go_ret
     exact ⟨kr, .inl ⟨HB.out, rfl⟩⟩
  ·obtain rfl : k = words.length := by omega
   have hwords : ∀ x ∈ words, Dp.isWord x := by
    intro x hx
    obtain ⟨j, hj, rfl⟩ := List.getElem_of_mem hx
    exact HNO.out j hj hj
   clear HNO
   go_wp2
   go_loopw [7] (fun i wx => ∃ (k : Nat) (vs : Value), k ≤ srcs.length ∧ i = .int .i64 k ∧ (∀ j (_ : j < k) (h : j < srcs.length), srcs[j].length ≤ 200) ∧ Dp.Row wx w.heap.size 3 (Dp.regCells (Dp.firstWords words words.length)) ∧ Dp.Row wx (w.heap.size + 1) 113 (Dp.refCells Dp.zeroCs 0 false (.slice (some ⟨w.heap.size, 0, none⟩) 256 256) vs) ∧ Dp.Own wx 9 vs (Dp.strCells (srcs.take k)) ∧ (∀ q, vs.ownBlock = some q → w.heap.size ≤ q) ∧ Dp.Keeps (fun _ => False) w wx) (fun i _ => srcs.length - (intOf i).toNat)
   case atStart => exact ⟨0, .slice none 0 0, Nat.zero_le _, rfl, fun j hj => absurd hj (by omega), gr, pr, Dp.Own.nil _ _, fun q hq => by simp [Value.ownBlock] at hq, kr⟩
   case round =>
    clear gr pr kr
    obtain ⟨k, vs, hk, rfl, hno, gr, pr, hown, hfr, kr⟩ := hrel
    have HNO := Hid.mk_ hno
    have HFR := Hid.mk_ hfr
    clear hno hfr
    by_cases hlt : k < srcs.length
    ·obtain ⟨rfl, hb⟩ := hne2 (by intro e; simp [e] at hlt)
     have hsz := (hcells2 k hlt).1
     have ck : wr.cell? ⟨b2, o2 + k, none⟩ = some (.string (Dp.str srcs[k])) := by rw [kr.cell hb (fun e => e)]; exact (hcells2 k hlt).2
     have hss := Dp.str_size srcs[k]
     by_cases hbig : 200 < srcs[k].length
     ·have HB : Hid (Dp.newOk words srcs = false) := by
       unfold Hid Dp.newOk
       have : srcs.all (fun l => decide (l.length ≤ 200)) = false := by
        rw [List.all_eq_false]
        exact ⟨srcs[k], List.getElem_mem hlt, by simp; omega⟩
       rw [this]; simp
      go_wp2
      go_ret
      exact ⟨kr, .inl ⟨HB.out, rfl⟩⟩
     ·have HSM : Hid (srcs[k].length ≤ 200) := by unfold Hid; omega
      go_wp2
      have hnp : ¬ vs.ownBlock = some (w.heap.size + 1) := fun e => hown.ne pr (by decide) _ e rfl
      have hng : ¬ vs.ownBlock = some w.heap.size := fun e => hown.ne gr (by decide) _ e rfl
      have hnb : ¬ vs.ownBlock = some b2 := fun e => by have := HFR.out b2 e; omega
      have HX := Hid.mk_ (And.intro hnp (And.intro hng hnb))
      have hS0 : Dp.Keeps (fun q => vs.ownBlock = some q) wr wr.drew := (Dp.Keeps.refl _ _).drew
      have q15 : ∀ wx, Dp.Keeps (fun q => vs.ownBlock = some q) wr wx → wx.cell? ⟨w.heap.size + 1, 15, none⟩ = some vs := fun wx kx => ((pr.keep kx hnp).refC rfl).2.2.2.2.2.2.2
      have qs : ∀ wx, Dp.Keeps (fun q => vs.ownBlock = some q) wr wx → wx.cell? ⟨b2, o2 + k, none⟩ = some (.string (Dp.str srcs[k])) := fun wx kx => (kx.cell (p := ⟨b2, o2 + k, none⟩) (Nat.lt_of_lt_of_le hb kr.size) hnb).trans ck
      clear hnp hng hnb
      refine Dp.wp_region_K (fun wx => Dp.Keeps (fun q => vs.ownBlock = some q) wr wx) 13 mixedZ ?_
      refine' Dp.wpAnyK_take 0 rfl (by kernel_rfl) (fun _ _ _ h => h) (by rfl) ?hy0 hS0 ?rest0
      case hy0 => intro wx hSx; go_simp; try with_reducible rfl
      simp only [Act.put, Dp.tks]
      refine' Dp.wpAnyK_take 1 rfl (by kernel_rfl) (fun _ _ _ h => h) (by rfl) ?hy1 hS0 ?rest1
      case hy1 => intro wx hSx; go_simp; try with_reducible rfl
      simp only [Act.put, Dp.tks]
      refine' Dp.wpAnyK_take 2 rfl (by kernel_rfl) (fun _ _ _ h => h) (by rfl) ?hy2 hS0 ?rest2
      case hy2 => intro wx hSx; go_simp; try with_reducible rfl
      simp only [Act.put, Dp.tks]
      refine' Dp.wpAnyK_take 3 rfl (by kernel_rfl) (fun _ _ _ h => h) (by rfl) ?hy3 hS0 ?rest3
      case hy3 => intro wx hSx; go_simp; try with_reducible rfl
      simp only [Act.put, Dp.tks]
      refine' Dp.wpAnyK_take 4 rfl (by kernel_rfl) (fun _ _ _ h => h) (by rfl) ?hy4 hS0 ?rest4
      case hy4 => intro wx hSx; go_simp; try with_reducible rfl
      simp only [Act.put, Dp.tks]
      refine' Dp.wpAnyK_take 5 rfl (by kernel_rfl) (fun _ _ _ h => h) (by rfl) ?hy5 hS0 ?rest5
      case hy5 => intro wx hSx; go_simp; try with_reducible rfl
      simp only [Act.put, Dp.tks]
      refine' Dp.wpAnyK_take 6 rfl (by kernel_rfl) (fun _ _ _ h => h) (by rfl) ?hy6 hS0 ?rest6
      case hy6 => intro wx hSx; go_simp; try with_reducible rfl
      simp only [Act.put, Dp.tks]
      refine' Dp.wpAnyK_take 7 rfl (by kernel_rfl) (fun _ _ _ h => h) (by rfl) ?hy7 hS0 ?rest7
      case hy7 => intro wx hSx; go_simp; try with_reducible rfl
      simp only [Act.put, Dp.tks]
      refine' Dp.wpAnyK_take 8 rfl (by kernel_rfl) (fun _ _ _ h => h) (by rfl) ?hy8 hS0 ?rest8
      case hy8 => intro wx hSx; go_simp; try with_reducible rfl
      simp only [Act.put, Dp.tks]
      refine Dp.wpAnyK_one 9 rfl (by kernel_rfl) (by rfl) (fun K hK => ?_)
      go_simp
      have hS1 : Dp.Keeps (fun q => vs.ownBlock = some q) wr (wr.alloc (.cells #[.string (Dp.str srcs[k])] 9)).drew := ((Dp.Keeps.refl _ _).alloc _).drew
      refine hK _ _ ⟨fun _ => hS1, ?_⟩
      clear hK K
      have hlk : (Dp.strCells (srcs.take k)).length = k := by simp [Dp.strCells]; omega
      refine Dp.wpAnyK_one 10 rfl (by kernel_rfl) (by rfl) (fun K hK => ?_)
      refine Dp.wp_append_Own _ _ 34 rfl 9 (.string ⟨#[]⟩) 16 Tryz.underlying34 infoStr rfl vs (Dp.strCells (srcs.take k)) rfl (hown.alloc _).drew ⟨wr.heap.size, 0, none⟩ 1 1 [.string (Dp.str srcs[k])] rfl rfl (fun j u h => cell_one_new wr _ _ j u h) (fun x hx => by simp at hx; subst hx; rfl) (by omega) (by rw [hlk]; unfold maxLen; omega) (by rw [hlk]; omega) ?_
      intro v3 w3 own3 k3 sz3
      have hS2 := hS1.trans k3
      refine hK _ _ ⟨fun _ => hS2, ?_⟩
      clear hK K
      simp only [Act.put, Dp.tks]
      refine Dp.wpAnyK_one 11 rfl (by kernel_rfl) (by rfl) (fun K hK => ?_)
      go_simp
      refine hK _ _ ⟨fun _ => hS2, ?_⟩
      clear hK K
      refine Dp.wpAnyK_one 12 rfl (by kernel_rfl) (by rfl) (fun K hK => ?_)
      go_simp
      refine hK _ _ ⟨fun _ => hS2, ?_⟩
      clear hK K
      have pr3 := pr.keep hS2 HX.out.1
      have c15 := (pr3.refC rfl).2.2.2.2.2.2.2
      have f15 := pr3.frozen 15
      obtain ⟨ad3, cap3, e3⟩ : ∃ ad3 cap3, v3 = .slice ad3 (k + 1) cap3 := by
       obtain ⟨ad3, cap3, e3⟩ := own3.isSlice
       rw [List.length_append, hlk] at e3
       exact ⟨ad3, cap3, e3⟩
      have E3 := Hid.mk_ e3
      rw [e3]
      clear e3
      refine Dp.wpAnyK_one 13 rfl (by kernel_rfl) (by rfl) (fun K hK => ?_)
      go_simp
      refine hK _ _ ⟨fun h => absurd rfl h, ?_⟩
      clear hK K
      refine Dp.wpAnyK_done (by kernel_rfl) ?_ _
      rw [← E3.out]
      have gr3 := gr.keep hS2 HX.out.2.1
      have e1 : Dp.strCells (srcs.take k) ++ [.string (Dp.str srcs[k])] = Dp.strCells (srcs.take (k + 1)) := by
       rw [List.take_succ_eq_append_getElem hlt]; unfold Dp.strCells; rw [List.map_append]; rfl
      rw [e1] at own3
      have hsz3 := kr.size
      have HO : Hid (Dp.Own (w3.setCell ⟨w.heap.size + 1, 15, none⟩ v3) 9 v3 (Dp.strCells (srcs.take (k + 1)))) := own3.keep ((Dp.Keeps.refl (fun q => q = w.heap.size + 1) w3).setCell (p := ⟨w.heap.size + 1, 15, none⟩) (.inr rfl) v3) (fun q hq e => own3.ne pr3 (by decide) q hq e)
      have HF3 : Hid (∀ q, v3.ownBlock = some q → w.heap.size ≤ q) := by
       intro q hq
       rcases sz3.out with h | h
       ·exact HFR.out q (h.1 ▸ hq)
       ·rw [h.1] at hq
        simp at hq
        omega
      have HPR : Hid (Dp.Row (w3.setCell ⟨w.heap.size + 1, 15, none⟩ v3) (w.heap.size + 1) 113 (Dp.refCells Dp.zeroCs 0 false (.slice (some ⟨w.heap.size, 0, none⟩) 256 256) v3)) := pr3.set 15 v3
      have HGR : Hid (Dp.Row (w3.setCell ⟨w.heap.size + 1, 15, none⟩ v3) w.heap.size 3 (Dp.regCells (Dp.firstWords words words.length))) := gr3.setOther _ _ (show w.heap.size ≠ w.heap.size + 1 by omega)
      have HKR : Hid (Dp.Keeps (fun _ => False) w (w3.setCell ⟨w.heap.size + 1, 15, none⟩ v3)) := (kr.next hS2 (fun q hq e => by have := HFR.out q e; omega)).setCell (.inl (show w.heap.size ≤ w.heap.size + 1 by omega)) v3
      clear own3 k3 sz3 hS2 hS1 hS0 q15 qs pr3 gr3 c15 f15 hown gr pr kr e1
      generalize w3.setCell ⟨w.heap.size + 1, 15, none⟩ v3 = w5 at *
      go_wp2
      go_roundw
      case rel => exact ⟨k + 1, v3, by omega, by go_num, fun j hj hj' => by
       by_cases e : j = k
       ·subst e; exact HSM.out
       ·exact HNO.out j (by omega) hj', HGR.out, HPR.out, HO.out, HF3.out, HKR.out⟩
      case measure => simp [intOf]; omega
    ·obtain rfl : k = srcs.length := by omega
     have HB : Hid (Dp.newOk words srcs = true) := by
      unfold Hid Dp.newOk
      simp only [Bool.and_eq_true, decide_eq_true_eq, List.all_eq_true]
      refine ⟨⟨⟨by omega, by omega⟩, fun x hx => hwords x hx⟩, fun l hl => ?_⟩
      obtain ⟨j, hj, rfl⟩ := List.getElem_of_mem hl
      exact HNO.out j hj hj
     have hfw : Dp.firstWords words words.length = (Dp.newMach words srcs).cells := by simp [Dp.firstWords, Dp.newMach]
     rw [hfw] at gr
     rw [List.take_length] at hown
     have hcl : (Dp.newMach words srcs).cells.length = 256 := by simp [Dp.newMach]; omega
     have hcw : ∀ x ∈ (Dp.newMach words srcs).cells, Dp.isWord x := by
      intro x hx
      simp only [Dp.newMach, List.mem_append, List.mem_replicate] at hx
      rcases hx with hx | ⟨_, rfl⟩
      ·exact hwords x hx
      ·simp [Dp.isWord]
     have c14 := (pr.refC rfl).2.2.2.2.2.2.1
     have gr' : Dp.Row wr w.heap.size 3 (Dp.regCells (Dp.newMach words srcs).cells ++ []) := by rw [List.append_nil]; exact gr
     have HCW := Hid.mk_ hcw
     have HSRC : Hid (∀ x ∈ srcs, x.length ≤ 200) := by
      intro l hl
      obtain ⟨j, hj, rfl⟩ := List.getElem_of_mem hl
      exact HNO.out j hj hj
     clear hwords hfw hcw
     go_wp2_with fail
     refine (refDigest _ HCW.out hcl w.heap.size _ [] 8 0 _ _ _ (by omega) (by omega) gr' (by omega) (by omega)).mono ?_
     rintro e w6 ⟨rfl, k6⟩
     have pr6 := pr.keep k6 (fun e => e)
     have c12 := (pr6.refC rfl).2.2.2.2.1
     have f12 := pr6.frozen 12
     have hroot : Dp.digest (Dp.newMach words srcs).cells 0 8 = Dp.root (Dp.newMach words srcs).cells := rfl
     rw [hroot]
     have hrb := Dp.root_bd (Dp.newMach words srcs).cells
     clear hroot c14
     go_wp2
     go_ret
     have gr6 := gr'.keep k6 (fun e => e)
     have ow6 := hown.keep k6 (fun _ _ e => e)
     have hne6 : w.heap.size ≠ w.heap.size + 1 := by omega
     refine ⟨((kr.trans k6).setCell (.inl (show w.heap.size ≤ w.heap.size + 1 by omega)) _), .inr ⟨HB.out, w.heap.size + 1, w.heap.size, vs, rfl, by omega, Nat.le_refl _, HFR.out, ?_⟩⟩
     refine ⟨⟨Dp.zeroCs_ok, hcl, HCW.out, by show srcs.length ≤ 8; omega, HSRC.out⟩, ⟨Dp.root (Dp.newMach words srcs).cells, false, [], ?_, gr6.setOther _ _ hne6, fun _ => rfl, hrb.1, by omega, by unfold maxLen; simp⟩, ?_⟩
     ·exact pr6.set 12 (.int .i64 (Dp.root (Dp.newMach words srcs).cells))
     ·exact ow6.keep ((Dp.Keeps.refl (fun q => q = w.heap.size + 1) w6).setCell (p := ⟨w.heap.size + 1, 12, none⟩) (.inr rfl) _) (fun q hq e => ow6.ne pr6 (by decide) q hq e)
end Go.Proofs.YtdipojfngdceoaaGreatDoor

namespace Go.Proofs.YtdipojfngdceoaaGreatDoor
open Go.RowKit
namespace Dp
def rooted (l : List UInt8) (word : Int) (n : Nat) : Nat → Int
 | 0 => sum (0 :: four word)
 | k + 1 => if n / 2 ^ k % 2 = 0 then sum (1 :: (two (rooted l word n k) ++ two (numTo l (4 + 2 * k) 2))) else sum (1 :: (two (numTo l (4 + 2 * k) 2) ++ two (rooted l word n k)))
theorem rooted_bd (l : List UInt8) (word : Int) (n k : Nat) : 0 ≤ rooted l word n k ∧ rooted l word n k < 65521 := by
 cases k with
 | zero => exact sum_bd _
 | succ k => unfold rooted; split <;> exact sum_bd _
theorem rooted_even (l : List UInt8) (word : Int) (n k : Nat) (h : n / 2 ^ k % 2 = 0) : rooted l word n (k + 1) = sum (1 :: (two (rooted l word n k) ++ two (numTo l (4 + 2 * k) 2))) := by
 show (if _ then _ else _) = _; rw [if_pos h]
theorem rooted_odd (l : List UInt8) (word : Int) (n k : Nat) (h : ¬ n / 2 ^ k % 2 = 0) : rooted l word n (k + 1) = sum (1 :: (two (numTo l (4 + 2 * k) 2) ++ two (rooted l word n k))) := by
 show (if _ then _ else _) = _; rw [if_neg h]
theorem numTo_two (l : List UInt8) (at_ : Nat) : 0 ≤ numTo l at_ 2 ∧ numTo l at_ 2 < 65536 := by
 have hb : ∀ j, (l.getD j 0).toNat < 256 := fun j => (l.getD j 0).toNat_lt
 have h0 := hb (at_ + 0)
 have h1 := hb (at_ + 1)
 unfold numTo numTo numTo
 omega
end Dp
set_option maxHeartbeats 1000000 in
theorem refRooted (l : List UInt8) (word : Int) (n : Nat) (w : World) (hl : 20 ≤ l.length ∧ l.length ≤ 16777216) (hw : Dp.isWord word) (hn : n ≤ 4294967296) :
  Calls Tryz.prog 127 #[.string (Dp.str l), .int .i64 word, .int .i64 n] w fun e w' => e = .returned (.int .i64 (Dp.rooted l word n 8)) ∧ Dp.Keeps (fun _ => False) w w' := by
 unfold Dp.isWord at hw
 go_enter Tryz.func127, Tryz.ntmps127
 go_wp2_with fail
 refine (refFour _ _ (by omega)).mono ?_
 rintro e w1 ⟨rfl, k1⟩
 have q0 : (⟨#[0]⟩ : ByteArray) = Dp.str [0] := rfl
 have q00 : (⟨#[1]⟩ : ByteArray) = Dp.str [1] := rfl
 have q1 := Dp.str_size
 have q2 := Dp.four_length
 have q3 := Dp.str_append
 go_wp2_with fail
 refine (refSum _ _ (by rw [Dp.str_size]; simp [maxLen, Dp.four_length])).mono ?_
 rintro e w2 ⟨rfl, rfl⟩
 rw [Dp.str_data]
 have q4 := Dp.two_length
 clear q1 q2 q3
 go_wp2
 go_loopw [2, 7, 8, 9] (fun nn d i _ wx => ∃ k : Nat, k ≤ 8 ∧ i = .int .i64 k ∧ nn = .int .i64 ((n / 2 ^ k : Nat) : Int) ∧ d = .int .i64 (Dp.rooted l word n k) ∧ Dp.Keeps (fun _ => False) w wx) (fun _ _ i _ _ => 8 - (intOf i).toNat)
 case atStart => exact ⟨0, Nat.zero_le _, rfl, by simp, rfl, k1⟩
 case round =>
  obtain ⟨k, hk, rfl, rfl, rfl, kk⟩ := hrel
  clear k1
  have bd := Dp.rooted_bd l word n k
  have hq : n / 2 ^ k ≤ n := Nat.div_le_self _ _
  by_cases hlt : k < 8
  ·have HQ : Hid (((n / 2 ^ (k + 1) : Nat) : Int) = ((n / 2 ^ k : Nat) : Int) / 2) := by
    unfold Hid; rw [Nat.pow_succ, ← Nat.div_div_eq_div_mul]; rfl
   have bo := Dp.numTo_two l (4 + 2 * k)
   have HN : Hid (∀ (a : Int) (wx : World), a = ((4 + 2 * k : Nat) : Int) → Calls Tryz.prog 115 #[.string (Dp.str l), .int .i64 a, .int .i64 2] wx fun e w' => e = .returned (.int .i64 (Dp.numTo l (4 + 2 * k) 2)) ∧ w' = wx) := by
    rintro a wx rfl
    exact refNumber l (4 + 2 * k) 2 wx (by omega) (by omega) hl.2
   go_wp2_with fail
   refine (HN.out _ _ (by omega)).mono ?_
   rintro e w3 ⟨rfl, rfl⟩
   have q1 := Dp.str_size
   have q3 := Dp.str_append
   by_cases hev : n / 2 ^ k % 2 = 0
   ·have HR : Hid (Dp.rooted l word n (k + 1) = Dp.sum (1 :: (Dp.two (Dp.rooted l word n k) ++ Dp.two (Dp.numTo l (4 + 2 * k) 2)))) := Dp.rooted_even l word n k hev
    generalize Dp.rooted l word n k = D at *
    generalize Dp.numTo l (4 + 2 * k) 2 = O at *
    generalize n / 2 ^ k = Q at *
    have hev2 : ((Q : Int) % 2 == 0) = true := by rw [beq_iff_eq]; omega
    go_wp2_with fail
    refine (refTwo _ _ (by omega)).mono ?_
    rintro e w4 ⟨rfl, k4⟩
    go_wp2_with fail
    refine (refTwo _ _ (by omega)).mono ?_
    rintro e w5 ⟨rfl, k5⟩
    go_wp2_with fail
    refine (refSum _ _ (by rw [Dp.str_size]; simp [maxLen, Dp.two_length])).mono ?_
    rintro e w6 ⟨rfl, rfl⟩
    rw [Dp.str_data]
    clear q1 q3
    go_wp2
    go_roundw
    case rel => exact ⟨k + 1, by omega, by go_num, by rw [HQ.out], by rw [HR.out], (kk.trans k4).trans k5⟩
    case measure => simp [intOf]; omega
   ·have HR : Hid (Dp.rooted l word n (k + 1) = Dp.sum (1 :: (Dp.two (Dp.numTo l (4 + 2 * k) 2) ++ Dp.two (Dp.rooted l word n k)))) := Dp.rooted_odd l word n k hev
    generalize Dp.rooted l word n k = D at *
    generalize Dp.numTo l (4 + 2 * k) 2 = O at *
    generalize n / 2 ^ k = Q at *
    have hev2 : ((Q : Int) % 2 == 0) = false := by rw [beq_eq_false_iff_ne]; omega
    go_wp2_with fail
    refine (refTwo _ _ (by omega)).mono ?_
    rintro e w4 ⟨rfl, k4⟩
    go_wp2_with fail
    refine (refTwo _ _ (by omega)).mono ?_
    rintro e w5 ⟨rfl, k5⟩
    go_wp2_with fail
    refine (refSum _ _ (by rw [Dp.str_size]; simp [maxLen, Dp.two_length])).mono ?_
    rintro e w6 ⟨rfl, rfl⟩
    rw [Dp.str_data]
    clear q1 q3
    go_wp2
    go_roundw
    case rel => exact ⟨k + 1, by omega, by go_num, by rw [HQ.out], by rw [HR.out], (kk.trans k4).trans k5⟩
    case measure => simp [intOf]; omega
  ·obtain rfl : k = 8 := by omega
   go_wp2
   go_ret
   exact ⟨rfl, kk⟩
end Go.Proofs.YtdipojfngdceoaaGreatDoor
