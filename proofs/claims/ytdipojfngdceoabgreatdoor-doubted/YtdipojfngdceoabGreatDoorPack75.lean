/- Steps on the way: ProgLabel, ProgTexts, ProgRecord2. -/
import Derived.Test.YtdipojfngdceoabGreatDoorPack69
import Derived.Test.YtdipojfngdceoabGreatDoorPack70
import Derived.Test.YtdipojfngdceoabGreatDoorPack73
import Derived.Test.YtdipojfngdceoabGreatDoorPack74
/- The program's label of a state, and its stamp. -/
namespace Go.Proofs.YtdipojfngdceoabGreatDoor
open Go.RowKit

namespace Dp
theorem vals_append (a b : List UInt8) : vals a ++ vals b = vals (a ++ b) := by simp [vals]
theorem vals_one (l : List UInt8) : ∀ u ∈ vals l, u.oneCell' = true := by
  intro u hu
  simp only [vals, List.mem_map] at hu
  obtain ⟨b, _, rfl⟩ := hu
  rfl
theorem vals_news {w : World} {g : Nat} {e : TypeId} {l : List UInt8} (h : Row w g e (vals l)) : ∀ j u, (vals l)[j]? = some u → w.cell? ((⟨g, 0, none⟩ : Addr).add j) = some u := by
  intro j u hj
  rw [add_zero_off, h.cell]; exact hj
theorem Row.state {w : World} {g : Nat} {e : TypeId} {s : Cs} (h : Row w g e (stateCells s)) : w.cell? ⟨g, 0, none⟩ = some (.int .u32 s.pc) ∧ w.cell? ⟨g, 1, none⟩ = some (.int .u32 s.steps) ∧ w.cell? ⟨g, 2, none⟩ = some (.int .u32 s.code) ∧ w.cell? ⟨g, 3, none⟩ = some (.bool s.over) := by
  refine ⟨?_, ?_, ?_, ?_⟩ <;> (rw [h.cell]; rfl)
theorem oneByte (b : Bool) : vals [if b then 1 else 0] = [.int .u8 (one b)] := by cases b <;> rfl
end Dp
theorem sizeRegs32 : (Tryz.prog.info? 77).map (·.size) = some 8 := by kernel_rfl

set_option maxRecDepth 100000 in
set_option maxHeartbeats 1000000 in
theorem progLabel (s : Dp.Cs) (root : Int) (w : World) (hs : s.Ok) (hr : 0 ≤ root ∧ root < 65536) :
    Calls Tryz.prog 65 #[.agg (Dp.stateCells s).toArray, .int .i64 root] w fun e w' => (∃ v, e = .returned v ∧ Dp.Own w' 5 v (Dp.vals (Dp.label s root)) ∧ ∀ g, v.ownBlock = some g → w.heap.size ≤ g) ∧ Dp.Keeps (fun _ => False) w w' := by
  go_enter Tryz.func65, Tryz.ntmps65
  go_wp2_with (refine Dp.wpList_box_row rfl 79 _ rfl (Dp.stateCells s) rfl ?_)
  intro w1 x1 z1 k1
  go_wp2_with (at_make; refine Dp.wpList_make_cap _ rfl _ _ 35 rfl 5 (.int .u8 0) 1 Tryz.underlying35 infoU8 rfl _ _ _ 47 rfl rfl (by omega) (by omega) (by unfold maxLen; omega) ?_)
  intro v0 w2 o2 ob2 z2 k2
  have x2 := x1.keep k2 (fun e => e)
  have kr2 := k1.trans k2
  have HF2 : Hid (∀ g, v0.ownBlock = some g → w.heap.size ≤ g) := fun g hg => by rw [ob2] at hg; simp at hg; omega
  clear x1 k1 k2 ob2 z1 z2
  have o2' : Dp.Own w2 5 v0 (Dp.vals []) := o2
  clear o2
  obtain ⟨c0, c1, c2, c3⟩ := x2.state
  go_wp2_with fail
  refine (progWord s.pc _ hs.pc).mono ?_
  rintro e wa2 ⟨rfl, ra2, za2, ka2⟩
  clear c0 c1 c2 c3
  have oa2 := o2'.keep ka2 (fun _ _ e => e)
  have xa2 := x2.keep ka2 (fun e => e)
  have NW := Hid.mk_ (Dp.vals_news ra2)
  go_wp2_with (at_builtin; refine Dp.wpList_append_Own rfl _ _ 35 rfl 5 (.int .u8 0) 1 Tryz.underlying35 infoU8 rfl v0 (Dp.vals ([])) rfl oa2 ⟨w2.heap.size, 0, none⟩ 4 4 (Dp.vals (Dp.four s.pc)) rfl rfl NW.out (Dp.vals_one _) (by omega) (by simp [Dp.vals, maxLen]) (by simp [Dp.vals]) ?_)
  intro vb2 wb2 ob2 kb2 sb2
  rw [Dp.vals_append] at ob2
  have xb2 := xa2.keep kb2 (fun e => oa2.ne xa2 (by decide) _ e rfl)
  have krb2 := (kr2.trans ka2).next kb2 (fun i hi e => by have := HF2.out i e; omega)
  have HFb2 : Hid (∀ g, vb2.ownBlock = some g → w.heap.size ≤ g) := fun g hg => by
    have hsz := (kr2.trans ka2).size
    rcases sb2.out with hh | hh
    · exact HF2.out g (hh.1 ▸ hg)
    · rw [hh.1] at hg; simp at hg; omega
  clear oa2 xa2 ra2 za2 ka2 kb2 sb2 o2' x2 kr2 HF2 NW
  obtain ⟨c0, c1, c2, c3⟩ := xb2.state
  go_wp2_with fail
  refine (progWord s.steps _ hs.steps).mono ?_
  rintro e wa3 ⟨rfl, ra3, za3, ka3⟩
  clear c0 c1 c2 c3
  have oa3 := ob2.keep ka3 (fun _ _ e => e)
  have xa3 := xb2.keep ka3 (fun e => e)
  have NW := Hid.mk_ (Dp.vals_news ra3)
  go_wp2_with (at_builtin; refine Dp.wpList_append_Own rfl _ _ 35 rfl 5 (.int .u8 0) 1 Tryz.underlying35 infoU8 rfl vb2 (Dp.vals ([] ++ Dp.four s.pc)) rfl oa3 ⟨wb2.heap.size, 0, none⟩ 4 4 (Dp.vals (Dp.four s.steps)) rfl rfl NW.out (Dp.vals_one _) (by omega) (by simp [Dp.vals, maxLen, Dp.four_length]) (by simp [Dp.vals, Dp.four_length]) ?_)
  intro vb3 wb3 ob3 kb3 sb3
  rw [Dp.vals_append] at ob3
  have xb3 := xa3.keep kb3 (fun e => oa3.ne xa3 (by decide) _ e rfl)
  have krb3 := (krb2.trans ka3).next kb3 (fun i hi e => by have := HFb2.out i e; omega)
  have HFb3 : Hid (∀ g, vb3.ownBlock = some g → w.heap.size ≤ g) := fun g hg => by
    have hsz := (krb2.trans ka3).size
    rcases sb3.out with hh | hh
    · exact HFb2.out g (hh.1 ▸ hg)
    · rw [hh.1] at hg; simp at hg; omega
  clear oa3 xa3 ra3 za3 ka3 kb3 sb3 ob2 xb2 krb2 HFb2 NW
  obtain ⟨c0, c1, c2, c3⟩ := xb3.state
  go_wp2_with fail
  refine (progWord s.code _ hs.code).mono ?_
  rintro e wa4 ⟨rfl, ra4, za4, ka4⟩
  clear c0 c1 c2 c3
  have oa4 := ob3.keep ka4 (fun _ _ e => e)
  have xa4 := xb3.keep ka4 (fun e => e)
  have NW := Hid.mk_ (Dp.vals_news ra4)
  go_wp2_with (at_builtin; refine Dp.wpList_append_Own rfl _ _ 35 rfl 5 (.int .u8 0) 1 Tryz.underlying35 infoU8 rfl vb3 (Dp.vals ([] ++ Dp.four s.pc ++ Dp.four s.steps)) rfl oa4 ⟨wb3.heap.size, 0, none⟩ 4 4 (Dp.vals (Dp.four s.code)) rfl rfl NW.out (Dp.vals_one _) (by omega) (by simp [Dp.vals, maxLen, Dp.four_length]) (by simp [Dp.vals, Dp.four_length]) ?_)
  intro vb4 wb4 ob4 kb4 sb4
  rw [Dp.vals_append] at ob4
  have xb4 := xa4.keep kb4 (fun e => oa4.ne xa4 (by decide) _ e rfl)
  have krb4 := (krb3.trans ka4).next kb4 (fun i hi e => by have := HFb3.out i e; omega)
  have HFb4 : Hid (∀ g, vb4.ownBlock = some g → w.heap.size ≤ g) := fun g hg => by
    have hsz := (krb3.trans ka4).size
    rcases sb4.out with hh | hh
    · exact HFb3.out g (hh.1 ▸ hg)
    · rw [hh.1] at hg; simp at hg; omega
  clear oa4 xa4 ra4 za4 ka4 kb4 sb4 ob3 xb3 krb3 HFb3 NW
  obtain ⟨c0, c1, c2, c3⟩ := xb4.state
  have hone : 0 ≤ Dp.one s.over ∧ Dp.one s.over < 2 := by cases s.over <;> decide
  obtain ⟨bt, hbt⟩ : ∃ bt : UInt8, bt = if s.over then 1 else 0 := ⟨_, rfl⟩
  have HOB : Hid (Dp.vals [bt] = [.int .u8 (Dp.one s.over)]) := by unfold Hid; rw [hbt]; exact Dp.oneByte _
  have HBT := Hid.mk_ hbt
  clear hbt
  go_wp2_with fail
  refine (progOne s.over _).mono ?_
  rintro e w5 ⟨rfl, rfl⟩
  clear c0 c1 c2 c3
  generalize Dp.one s.over = on at *
  have N5 : Hid (∀ j u, (Dp.vals [bt])[j]? = some u → (w5.alloc (.cells #[.int .u8 on] 5)).cell? ((⟨w5.heap.size, 0, none⟩ : Addr).add j) = some u) := by
    refine Dp.vals_news (e := 5) ?_
    rw [HOB.out]; exact Dp.Row.allocNew w5 5 [.int .u8 on]
  have o5 := ob4.alloc (.cells #[.int .u8 on] 5)
  have x5 := xb4.allocOld (.cells #[.int .u8 on] 5)
  have k5 := krb4.alloc (.cells #[.int .u8 on] 5)
  go_wp2_with (at_builtin; refine Dp.wpList_append_Own rfl _ _ 35 rfl 5 (.int .u8 0) 1 Tryz.underlying35 infoU8 rfl vb4 (Dp.vals ([] ++ Dp.four s.pc ++ Dp.four s.steps ++ Dp.four s.code)) rfl o5 ⟨w5.heap.size, 0, none⟩ 1 1 (Dp.vals [bt]) rfl rfl N5.out (Dp.vals_one _) (by omega) (by simp [Dp.vals, maxLen, Dp.four_length]) (by simp [Dp.vals, Dp.four_length]) ?_)
  intro v6 w6 o6 k6 s6
  rw [Dp.vals_append] at o6
  have hn5 : ¬ vb4.ownBlock = some w.heap.size := fun e => o5.ne x5 (by decide) _ e rfl
  have x6 := Dp.Row.keep (S := fun k => vb4.ownBlock = some k) x5 k6 hn5
  have kr6 := k5.next k6 (fun i hi e => by have := HFb4.out i e; omega)
  have HF6 : Hid (∀ g, v6.ownBlock = some g → w.heap.size ≤ g) := fun g hg => by
    have hsz := k5.size
    rcases s6.out with hh | hh
    · exact HFb4.out g (hh.1 ▸ hg)
    · rw [hh.1] at hg; simp at hg; simp at hsz; omega
  clear ob4 xb4 krb4 HFb4 N5 o5 x5 k5 k6 s6 hone HOB hn5
  have HX6 : Hid (Dp.Row w6 w.heap.size 79 ([.int .u32 s.pc, .int .u32 s.steps, .int .u32 s.code, .bool s.over] ++ Dp.wordCells s.regs ++ [])) := by unfold Hid; rw [List.append_nil]; exact x6
  have HW : Hid ((Dp.wordCells s.regs).length = 8) := by unfold Hid; simp [Dp.wordCells, hs.len]
  clear x6
  go_wp2_with (refine Dp.wpList_load_in rfl 77 _ rfl w.heap.size 4 rfl 79 _ _ _ HX6.out rfl _ Tryz.underlying77 rfl (by rw [sizeRegs32, HW.out]) ?_)
  intro _
  go_wp2
  go_loopw [5, 7, 33] (fun v _ i wr => ∃ k : Nat, k ≤ 8 ∧ i = .int .i64 k ∧ Dp.Own wr 5 v (Dp.vals ([] ++ Dp.four s.pc ++ Dp.four s.steps ++ Dp.four s.code ++ [bt] ++ ((s.regs.take k).map Dp.four).flatten)) ∧ Hid (∀ g, v.ownBlock = some g → w.heap.size ≤ g) ∧ Dp.Keeps (fun _ => False) w wr) (fun _ _ i _ => 8 - (intOf i).toNat)
  case atStart => exact ⟨0, Nat.zero_le _, rfl, by simpa using o6, HF6, kr6⟩
  case round =>
    obtain ⟨k, hk, rfl, ok, HFk, kk⟩ := hrel
    clear o6 HF6 kr6
    by_cases hk2 : k < 8
    · have hkl : k < s.regs.length := by rw [hs.len]; exact hk2
      have hx : (Dp.wordCells s.regs).toArray[k]? = some (.int .u32 s.regs[k]) := by simp [Dp.wordCells, hkl]
      have hwx : Dp.isWord s.regs[k] := hs.regs _ (List.getElem_mem hkl)
      have hidx : ∀ wx, (Instr.index 77 (.agg (Dp.wordCells s.regs).toArray) (.int .i64 (k : Int))).run Tryz.prog wx = .ok (.int .u32 s.regs[k]) wx := fun wx => Dp.run_index_one wx 77 76 8 _ k _ (by rfl) (by rfl) (by rfl) hk2 hx
      have HT : Hid (((s.regs.take (k + 1)).map Dp.four).flatten = ((s.regs.take k).map Dp.four).flatten ++ Dp.four s.regs[k]) := by
        unfold Hid; rw [List.take_succ_eq_append_getElem hkl, List.map_append, List.flatten_append]; simp
      have HLL : Hid ((((s.regs.take k).map Dp.four).flatten).length = 4 * k) := by
        unfold Hid
        rw [List.length_flatten, List.map_map]
        have : (List.map (List.length ∘ Dp.four) (List.take k s.regs)) = List.replicate k 4 := by
          apply List.ext_getElem (by simp; omega)
          intro i h1 h2
          simp [Dp.four_length]
        rw [this]; simp; omega
      have HAL : Hid ((Dp.vals ([] ++ Dp.four s.pc ++ Dp.four s.steps ++ Dp.four s.code ++ [bt] ++ ((s.regs.take k).map Dp.four).flatten)).length = 13 + 4 * k) := by
        unfold Hid; rw [Dp.vals_length, List.length_append, HLL.out]; rfl
      have HT2 : Hid ([] ++ Dp.four s.pc ++ Dp.four s.steps ++ Dp.four s.code ++ [bt] ++ ((s.regs.take (k + 1)).map Dp.four).flatten = [] ++ Dp.four s.pc ++ Dp.four s.steps ++ Dp.four s.code ++ [bt] ++ ((s.regs.take k).map Dp.four).flatten ++ Dp.four s.regs[k]) := by
        unfold Hid; rw [HT.out, ← List.append_assoc]
      generalize [] ++ Dp.four s.pc ++ Dp.four s.steps ++ Dp.four s.code ++ [bt] ++ ((s.regs.take k).map Dp.four).flatten = acc at *
      generalize s.regs[k] = rk at *
      clear HX6 HT HLL hx
      go_wp2_with fail
      refine (progWord rk _ hwx).mono ?_
      rintro e wa ⟨rfl, ra, za, ka⟩
      have oa := ok.keep ka (fun _ _ e => e)
      have NW := Hid.mk_ (Dp.vals_news ra)
      clear hidx
      go_wp2_with (at_builtin; refine Dp.wpList_append_Own rfl _ _ 35 rfl 5 (.int .u8 0) 1 Tryz.underlying35 infoU8 rfl u5 (Dp.vals acc) rfl oa ⟨wr.heap.size, 0, none⟩ 4 4 (Dp.vals (Dp.four rk)) rfl rfl NW.out (Dp.vals_one _) (by omega) (by rw [HAL.out]; unfold maxLen; omega) (by rw [HAL.out]; omega) ?_)
      intro vb wb ob kb sb
      rw [Dp.vals_append] at ob
      have OB : Hid (Dp.Own wb 5 vb (Dp.vals ([] ++ Dp.four s.pc ++ Dp.four s.steps ++ Dp.four s.code ++ [bt] ++ ((s.regs.take (k + 1)).map Dp.four).flatten))) := by unfold Hid; rw [HT2.out]; exact ob
      have krb := (kk.trans ka).next kb (fun i hi e => by have := HFk.out i e; omega)
      have HFb : Hid (∀ g, vb.ownBlock = some g → w.heap.size ≤ g) := fun g hg => by
        have hsz := (kk.trans ka).size
        rcases sb.out with hh | hh
        · exact HFk.out g (hh.1 ▸ hg)
        · rw [hh.1] at hg; simp at hg; omega
      clear ok oa ra za ka kb sb ob NW
      go_wp2
      go_roundw
      case rel => exact ⟨k + 1, by omega, by go_num, OB.out, HFb, krb⟩
      case measure => simp [intOf]; omega
    · obtain rfl : k = 8 := by omega
      have HTL : Hid (s.regs.take 8 = s.regs) := List.take_of_length_le (Nat.le_of_eq hs.len)
      have HLA : Hid ([] ++ Dp.four s.pc ++ Dp.four s.steps ++ Dp.four s.code ++ [bt] ++ ((s.regs.take 8).map Dp.four).flatten ++ Dp.two root = Dp.label s root) := by
        unfold Hid Dp.label; rw [HTL.out, HBT.out]; simp
      have HAL : Hid ((Dp.vals ([] ++ Dp.four s.pc ++ Dp.four s.steps ++ Dp.four s.code ++ [bt] ++ ((s.regs.take 8).map Dp.four).flatten)).length ≤ 100) := by
        unfold Hid
        have h := Dp.label_length s root hs.len
        rw [← HLA.out, List.length_append] at h
        rw [Dp.vals_length]; omega
      generalize [] ++ Dp.four s.pc ++ Dp.four s.steps ++ Dp.four s.code ++ [bt] ++ ((s.regs.take 8).map Dp.four).flatten = acc at *
      clear HX6
      go_wp2_with fail
      refine (progTwo root _ hr).mono ?_
      rintro e wa ⟨rfl, ra, za, ka⟩
      have oa := ok.keep ka (fun _ _ e => e)
      have NW := Hid.mk_ (Dp.vals_news ra)
      go_wp2_with (at_builtin; refine Dp.wpList_append_Own rfl _ _ 35 rfl 5 (.int .u8 0) 1 Tryz.underlying35 infoU8 rfl u5 (Dp.vals acc) rfl oa ⟨wr.heap.size, 0, none⟩ 2 2 (Dp.vals (Dp.two root)) rfl rfl NW.out (Dp.vals_one _) (by omega) (by have := HAL.out; unfold maxLen; omega) (by have := HAL.out; omega) ?_)
      intro vb wb ob kb sb
      rw [Dp.vals_append, HLA.out] at ob
      have krb := (kk.trans ka).next kb (fun i hi e => by have := HFk.out i e; omega)
      have HFb : Hid (∀ g, vb.ownBlock = some g → w.heap.size ≤ g) := fun g hg => by
        have hsz := (kk.trans ka).size
        rcases sb.out with hh | hh
        · exact HFk.out g (hh.1 ▸ hg)
        · rw [hh.1] at hg; simp at hg; omega
      clear ok oa ra za ka kb sb NW
      go_wp2
      go_ret
      exact ⟨⟨_, rfl, ob, HFb.out⟩, krb⟩

end Go.Proofs.YtdipojfngdceoabGreatDoor

/- The program's memory of proofs: the texts that a proof goes by, and the root. -/
namespace Go.Proofs.YtdipojfngdceoabGreatDoor
open Go.RowKit

namespace Dp
/-- The text that is k layers up from the cell n. -/
def ptext (word : Int) (os : List Int) (n : Nat) : Nat → List UInt8
  | 0 => cellText word
  | k + 1 => if n / 2 ^ k % 2 = 0 then halvesText (sum (ptext word os n k)) (os.getD k 0) else halvesText (os.getD k 0) (sum (ptext word os n k))
theorem ptext_length (word : Int) (os : List Int) (n k : Nat) : (ptext word os n k).length = 5 := by
  cases k with
  | zero => rfl
  | succ k => unfold ptext; split <;> rfl
theorem ptext_rooted (l : List UInt8) (word : Int) (n : Nat) : ∀ k, k ≤ 8 → sum (ptext word (others l 8) n k) = rooted l word n k
  | 0, _ => rfl
  | k + 1, h => by
    have ih := ptext_rooted l word n k (by omega)
    have ho : (others l 8).getD k 0 = numTo l (4 + 2 * k) 2 := by
      unfold others
      rw [List.getD_eq_getElem?_getD, List.getElem?_map, List.getElem?_range (by omega)]; rfl
    unfold ptext rooted
    rw [ih, ho]
    split <;> rfl
theorem others_bd (l : List UInt8) (k : Nat) : ∀ x ∈ others l k, 0 ≤ x ∧ x < 65536 := by
  intro x hx
  simp only [others, List.mem_map] at hx
  obtain ⟨i, _, rfl⟩ := hx
  exact numTo_two l _
theorem others_length (l : List UInt8) (k : Nat) : (others l k).length = k := by simp [others]
theorem getD_word {l : List Int} (h : ∀ x ∈ l, 0 ≤ x ∧ x < 65536) (k : Nat) : 0 ≤ l.getD k 0 ∧ l.getD k 0 < 65536 := by
  rw [List.getD_eq_getElem?_getD]
  cases e : l[k]? with
  | none => simp
  | some x => exact h x (List.mem_of_getElem? e)
/-- The values of nine texts, of which those up to k layers up stand there. -/
structure TextsTo (lo : Nat) (w : World) (vs : List Value) (word : Int) (os : List Int) (n k : Nat) : Prop where
  len : vs.length = 9
  one : ∀ v ∈ vs, v.oneCell' = true
  at_ : ∀ j, j ≤ k → ∃ B, vs[8 - j]? = some (.slice (some ⟨B, 0, none⟩) 5 5) ∧ Row w B 5 (vals (ptext word os n j)) ∧ lo ≤ B
theorem TextsTo.keep {S : Nat → Prop} {lo : Nat} {w w' : World} {vs : List Value} {word : Int} {os : List Int} {n k : Nat} (h : TextsTo lo w vs word os n k) (kk : Keeps S w w') (hS : ∀ B e, Row w B 5 e → ¬ S B) : TextsTo lo w' vs word os n k :=
  ⟨h.len, h.one, fun j hj => let ⟨B, h1, h2, h3⟩ := h.at_ j hj; ⟨B, h1, h2.keep kk (hS B _ h2), h3⟩⟩
theorem TextsTo.put {lo : Nat} {w : World} {vs : List Value} {word : Int} {os : List Int} {n k : Nat} (h : TextsTo lo w vs word os n k) (hk : k < 8) (B : Nat) (hB : Row w B 5 (vals (ptext word os n (k + 1)))) (hlo : lo ≤ B) : TextsTo lo w (vs.set (7 - k) (.slice (some ⟨B, 0, none⟩) 5 5)) word os n (k + 1) := by
  refine ⟨by rw [List.length_set]; exact h.len, fun v hv => (List.mem_or_eq_of_mem_set hv).elim (h.one v) (fun e => e ▸ rfl), fun j hj => ?_⟩
  by_cases hjk : j = k + 1
  · subst hjk
    refine ⟨B, ?_, hB, hlo⟩
    rw [show 8 - (k + 1) = 7 - k by omega, List.getElem?_set_self (by rw [h.len]; omega)]
  · obtain ⟨B', h1, h2, h3⟩ := h.at_ j (by omega)
    refine ⟨B', ?_, h2, h3⟩
    rw [List.getElem?_set_ne (by omega)]; exact h1
def nilTexts : List Value := List.replicate 9 (.slice none 0 0)
end Dp
theorem sizeTexts : (Tryz.prog.info? 217).map (·.size) = some 9 := by kernel_rfl
theorem zeroTexts : (Tryz.prog.info? 217).map (fun i => i.zero) = some (some (.agg (Dp.nilTexts).toArray)) := by kernel_rfl
theorem sizeOthers : (Tryz.prog.info? 67).map (·.size) = some 8 := by kernel_rfl

set_option maxRecDepth 100000 in
set_option maxHeartbeats 1000000 in
theorem progTexts (word : Int) (os : List Int) (n : Nat) (w : World) (hw : Dp.isWord word) (hol : os.length = 8) (hob : ∀ x ∈ os, 0 ≤ x ∧ x < 65536) :
    Calls Tryz.prog 172 #[.agg (Dp.proofCells word os).toArray, .int .u32 n] w fun e w' => ∃ vs, e = .returned (.agg vs.toArray) ∧ Dp.TextsTo w.heap.size w' vs word os n 8 ∧ Dp.Keeps (fun _ => False) w w' := by
  go_enter Tryz.func172, Tryz.ntmps172
  go_wp2_with (refine Dp.wpList_box_row rfl 213 _ rfl (Dp.proofCells word os) rfl ?_)
  intro w1 r1 z1 k1
  go_wp2_with (refine Dp.wpList_alloc_row rfl 217 rfl _ zeroTexts ?_)
  intro w2 r2 z2 k2
  go_wp2_with (refine Dp.wpList_alloc_row rfl 217 rfl _ zeroTexts ?_)
  intro w3 r3 z3 k3
  have rp := (r1.keep k2 (fun e => e)).keep k3 (fun e => e)
  have rr := r2.keep k3 (fun e => e)
  have c0 : w3.cell? ⟨w.heap.size, 0, none⟩ = some (.int .u32 word) := rp.cell 0
  have kk3 : Dp.Keeps (fun _ => False) w w3 := (k1.trans k2).trans k3
  clear r1 r2 k1 k2 k3
  go_wp2_with fail
  refine (progCellText word _ hw).mono ?_
  rintro e w4 ⟨rfl, r4, z4, k4⟩
  have rp4 := rp.keep k4 (fun e => e)
  have rr4 := rr.keep k4 (fun e => e)
  have rg4 := r3.keep k4 (fun e => e)
  have kk4 := kk3.trans k4
  have c8 : w4.cell? ⟨w.heap.size + 1 + 1, 8, none⟩ = some (.slice none 0 0) := rg4.cell 8
  have f8 := rg4.frozen 8
  rw [z3] at r4
  clear rp rr r3 kk3 k4 c0
  have HP5 : Hid (Dp.Row (w4.setCell ⟨w.heap.size + 1 + 1, 8, none⟩ (.slice (some ⟨w.heap.size + 1 + 1 + 1 + 1, 0, none⟩) 5 5)) w.heap.size 213 ([.int .u32 word] ++ Dp.intCells os ++ [])) := by
    have h := rp4.setOther ⟨w.heap.size + 1 + 1, 8, none⟩ (.slice (some ⟨w.heap.size + 1 + 1 + 1 + 1, 0, none⟩) 5 5) (show w.heap.size ≠ w.heap.size + 1 + 1 by omega)
    unfold Hid; rw [List.append_nil]; exact h
  have HO : Hid ((Dp.intCells os).length = 8) := by unfold Hid Dp.intCells; rw [List.length_map]; exact hol
  have hbt : w.heap.size + 1 + 1 ≠ w.heap.size + 1 + 1 + 1 + 1 := by omega
  have HR5 := Hid.mk_ (rr4.setOther ⟨w.heap.size + 1 + 1, 8, none⟩ (.slice (some ⟨w.heap.size + 1 + 1 + 1 + 1, 0, none⟩) 5 5) (show w.heap.size + 1 ≠ w.heap.size + 1 + 1 by omega))
  have HT5 := Hid.mk_ (r4.setOther ⟨w.heap.size + 1 + 1, 8, none⟩ (.slice (some ⟨w.heap.size + 1 + 1 + 1 + 1, 0, none⟩) 5 5) (fun e => hbt e.symm))
  have HG5 := Hid.mk_ (rg4.set 8 (.slice (some ⟨w.heap.size + 1 + 1 + 1 + 1, 0, none⟩) 5 5))
  have HK5 : Hid (Dp.Keeps (fun _ => False) w (w4.setCell ⟨w.heap.size + 1 + 1, 8, none⟩ (.slice (some ⟨w.heap.size + 1 + 1 + 1 + 1, 0, none⟩) 5 5))) := kk4.setCell (p := ⟨w.heap.size + 1 + 1, 8, none⟩) (.inl (show w.heap.size ≤ w.heap.size + 1 + 1 by omega)) _
  clear rp4 rr4 rg4 kk4 r4 hbt
  go_wp2_with (refine Dp.wpList_load_in rfl 67 _ rfl w.heap.size 1 rfl 213 _ _ _ HP5.out rfl _ Tryz.underlying67 rfl (by rw [sizeOthers, HO.out]) ?_)
  intro _
  go_wp2
  generalize w4.setCell ⟨w.heap.size + 1 + 1, 8, none⟩ (.slice (some ⟨w.heap.size + 1 + 1 + 1 + 1, 0, none⟩) 5 5) = w5 at *
  go_loopw [6, 7, 8, 9, 10, 18] (fun t _ _ _ _ i wr => ∃ (k B : Nat) (vs : List Value), k ≤ 8 ∧ i = .int .i64 k ∧ t = .slice (some ⟨B, 0, none⟩) 5 5 ∧ Dp.Row wr B 5 (Dp.vals (Dp.ptext word os n k)) ∧ Dp.TextsTo w.heap.size wr vs word os n k ∧ Dp.Row wr (w.heap.size + 1 + 1) 217 vs ∧ Dp.Row wr (w.heap.size + 1) 217 Dp.nilTexts ∧ Dp.Keeps (fun _ => False) w wr) (fun _ _ _ _ _ i _ => 8 - (intOf i).toNat)
  case atStart =>
    refine ⟨0, _, _, Nat.zero_le _, rfl, rfl, HT5.out, ⟨rfl, ?_, ?_⟩, HG5.out, HR5.out, HK5.out⟩
    · intro v hv
      rcases List.mem_or_eq_of_mem_set hv with h | rfl
      · simp only [Dp.nilTexts, List.mem_replicate] at h; rw [h.2]; rfl
      · rfl
    · intro j hj
      obtain rfl : j = 0 := by omega
      exact ⟨_, rfl, HT5.out, by omega⟩
  case round =>
    obtain ⟨k, B, vs, hk, rfl, rfl, rt, ht, rg, rz, kr⟩ := hrel
    clear HP5 HR5 HT5 HG5 HK5
    by_cases hlt : k < 8
    · have hx : (Dp.intCells os).toArray[k]? = some (.int .i64 (os.getD k 0)) := by
        simp [Dp.intCells, hol, hlt]
      have hidx : ∀ wx, (Instr.index 67 (.agg (Dp.intCells os).toArray) (.int .i64 (k : Int))).run Tryz.prog wx = .ok (.int .i64 (os.getD k 0)) wx := fun wx => Dp.run_index_one wx 67 3 8 _ k _ (by rfl) (by rfl) (by rfl) hlt hx
      have ho := Dp.getD_word hob k
      have bt : Dp.Bytes wr (.slice (some ⟨B, 0, none⟩) 5 5) (Dp.ptext word os n k) := by
        have h := Dp.bytes_row rt (by rw [Dp.ptext_length]; simp [maxLen]) 5
        rwa [Dp.ptext_length] at h
      have hpt := Dp.parts_just (e := 35) bt
      clear hx
      have HE : Hid (Dp.ptext word os n (k + 1) = if n / 2 ^ k % 2 = 0 then Dp.halvesText (Dp.sum (Dp.ptext word os n k)) (os.getD k 0) else Dp.halvesText (os.getD k 0) (Dp.sum (Dp.ptext word os n k))) := rfl
      generalize os.getD k 0 = O at *
      have hs := Dp.sum_bd (Dp.ptext word os n k)
      have hcases : ((((n : Int) / 2 ^ k).tmod 2 == 1) = false ∧ ∃ X Y : Int, X = Dp.sum (Dp.ptext word os n k) ∧ Y = O ∧ Hid (Dp.ptext word os n (k + 1) = Dp.halvesText X Y)) ∨ ((((n : Int) / 2 ^ k).tmod 2 == 1) = true ∧ ∃ X Y : Int, X = O ∧ Y = Dp.sum (Dp.ptext word os n k) ∧ Hid (Dp.ptext word os n (k + 1) = Dp.halvesText X Y)) := by
        have e1 : ((n : Int) / 2 ^ k).tmod 2 = ((n / 2 ^ k % 2 : Nat) : Int) := by
          have e0 : ((n : Int) / 2 ^ k) = ((n / 2 ^ k : Nat) : Int) := by simp
          rw [e0, Int.tmod_eq_emod_of_nonneg (Int.natCast_nonneg _)]; simp
        rw [e1]
        by_cases hpar : n / 2 ^ k % 2 = 0
        · refine .inl ⟨by rw [hpar]; rfl, _, _, rfl, rfl, ?_⟩
          have := HE.out; rw [if_pos hpar] at this; exact this
        · refine .inr ⟨by rw [show n / 2 ^ k % 2 = 1 by omega]; rfl, _, _, rfl, rfl, ?_⟩
          have := HE.out; rw [if_neg hpar] at this; exact this
      clear HE
      have hg8 := rg.lt
      have hvl := ht.len
      have c7 : wr.cell? ⟨w.heap.size + 1 + 1, 7 - k, none⟩ = some (vs.getD (7 - k) undef) := by
        rw [rg.cell, List.getD_eq_getElem?_getD, List.getElem?_eq_getElem (by omega)]; rfl
      have hsub : ((7 : Int) - (k : Int)).toNat = 7 - k := by omega
      rcases hcases with ⟨hg, X, Y, hX, hY, HE⟩ | ⟨hg, X, Y, hX, hY, HE⟩
      all_goals
        go_wp2_with fail
        refine (digSum _ _ _ hpt).mono ?_
        rintro e w6 ⟨rfl, rfl⟩
        rw [show ([Dp.ptext word os n k] : List (List UInt8)).flatten = Dp.ptext word os n k by simp]
        go_wp2_with fail
        rw [← hX, ← hY]
        refine (progHalvesText X Y _ (by omega) (by omega)).mono ?_
        rintro e w7 ⟨rfl, r7, z7, k7⟩
        rw [← HE.out] at r7
        have kw : Dp.Keeps (fun _ => False) wr w7 := ((Dp.Keeps.refl _ _).alloc _).trans k7
        have ht7 := ht.keep kw (fun _ _ _ e => e)
        have rg7 := rg.keep kw (fun e => e)
        have rz7 := rz.keep kw (fun e => e)
        have kr7 := kr.trans kw
        have c77 : w7.cell? ⟨w.heap.size + 1 + 1, 7 - k, none⟩ = some (vs.getD (7 - k) undef) := (kw.cell (p := ⟨w.heap.size + 1 + 1, 7 - k, none⟩) hg8 (fun e => e)).trans c7
        have f77 := rg7.frozen (7 - k)
        have hTlo : w.heap.size ≤ (wr.alloc (Obj.cells #[Value.slice (some ⟨B, 0, none⟩) 5 5] 35)).heap.size + 2 := by have := kr.size; simp; omega
        generalize (wr.alloc (Obj.cells #[Value.slice (some ⟨B, 0, none⟩) 5 5] 35)).heap.size + 2 = T at *
        have HQ : Hid (Dp.Row (w7.setCell ⟨w.heap.size + 1 + 1, 7 - k, none⟩ (.slice (some ⟨T, 0, none⟩) 5 5)) T 5 (Dp.vals (Dp.ptext word os n (k + 1)))) := r7.setOther _ _ (r7.ne rg7 (by decide))
        have HTT : Hid (Dp.TextsTo w.heap.size (w7.setCell ⟨w.heap.size + 1 + 1, 7 - k, none⟩ (.slice (some ⟨T, 0, none⟩) 5 5)) (vs.set (7 - k) (.slice (some ⟨T, 0, none⟩) 5 5)) word os n (k + 1)) :=
          (ht7.keep (S := fun i => i = w.heap.size + 1 + 1) (Dp.Keeps.setCell (S := fun i => i = w.heap.size + 1 + 1) (p := ⟨w.heap.size + 1 + 1, 7 - k, none⟩) (Dp.Keeps.refl _ _) (.inr rfl) _) (fun B e hB => hB.ne rg7 (by decide))).put hlt T HQ.out hTlo
        have HRG : Hid (Dp.Row (w7.setCell ⟨w.heap.size + 1 + 1, 7 - k, none⟩ (.slice (some ⟨T, 0, none⟩) 5 5)) (w.heap.size + 1 + 1) 217 (vs.set (7 - k) (.slice (some ⟨T, 0, none⟩) 5 5))) := rg7.set (7 - k) _
        have HRZ : Hid (Dp.Row (w7.setCell ⟨w.heap.size + 1 + 1, 7 - k, none⟩ (.slice (some ⟨T, 0, none⟩) 5 5)) (w.heap.size + 1) 217 Dp.nilTexts) := rz7.setOther _ _ (show w.heap.size + 1 ≠ w.heap.size + 1 + 1 by omega)
        have HKR : Hid (Dp.Keeps (fun _ => False) w (w7.setCell ⟨w.heap.size + 1 + 1, 7 - k, none⟩ (.slice (some ⟨T, 0, none⟩) 5 5))) := kr7.setCell (p := ⟨w.heap.size + 1 + 1, 7 - k, none⟩) (.inl (show w.heap.size ≤ w.heap.size + 1 + 1 by omega)) _
        clear r7 ht7 rg7 rz7 kr7 kw k7 z7 rt ht rg rz kr hpt bt c7 hidx
        go_wp2
        go_roundw
        case rel => exact ⟨k + 1, T, _, by omega, by go_num, rfl, HQ.out, HTT.out, HRG.out, HRZ.out, HKR.out⟩
        case measure => simp [intOf]; omega
    · obtain rfl : k = 8 := by omega
      have HRK : Hid (Dp.Row wr (w.heap.size + 1 + 1) 217 ([] ++ vs ++ [])) := by
        unfold Hid; rw [List.append_nil, List.nil_append]; exact rg
      have HRZ : Hid (Dp.Row wr (w.heap.size + 1) 217 ([] ++ Dp.nilTexts ++ [])) := by
        unfold Hid; rw [List.append_nil, List.nil_append]; exact rz
      have HM := Hid.mk_ ht.len
      have H1 := Hid.mk_ ht.one
      have hrg : ∀ B e, Dp.Row wr B 5 e → ¬ B = w.heap.size + 1 := fun B e hB => hB.ne rz (by decide)
      clear rg rz rt
      go_wp2_with (first | (refine Dp.wpList_store_in rfl 217 _ _ rfl (w.heap.size + 1) 0 rfl vs rfl 217 [] _ [] HRZ.out rfl (HM.out.trans rfl) (by rw [sizeTexts, HM.out]) H1.out ?_) | (refine Dp.wpList_load_in rfl 217 _ rfl (w.heap.size + 1 + 1) 0 rfl 217 [] _ [] HRK.out rfl _ Tryz.underlying217 rfl (by rw [sizeTexts, HM.out]) ?_; intro _))
      intro w8 r8 z8 k8
      go_wp2
      refine bodyPost_ret (v := .agg vs.toArray) (results_cell_row rfl _ _ (w.heap.size + 1) 217 _ (0, 0) _ rfl r8 Tryz.underlying217 rfl (by rw [sizeTexts, List.size_toArray, HM.out])) rfl ?_
      exact ⟨vs, rfl, ht.keep k8 hrg, kr.next k8 (fun i hi e => by omega)⟩
end Go.Proofs.YtdipojfngdceoabGreatDoor

/- The bytes of a proof, and what a record of them does. -/
namespace Go.Proofs.YtdipojfngdceoabGreatDoor
open Go.RowKit

namespace Dp
/-- The bytes of a proof, the first k digests of it. -/
def pbTo (word : Int) (os : List Int) : Nat → List UInt8
  | 0 => four word
  | k + 1 => pbTo word os k ++ two (os.getD k 0)
theorem pbTo_length (word : Int) (os : List Int) (k : Nat) : (pbTo word os k).length = 4 + 2 * k := by
  induction k with
  | zero => rfl
  | succ k ih => unfold pbTo; rw [List.length_append, ih, two_length]; omega
theorem pbTo_proof (cells : List Int) (n k : Nat) (hk : k ≤ 8) : pbTo (cells.getD n 0) (besideTo cells n 8) k = proofTo cells n k := by
  induction k with
  | zero => rfl
  | succ k ih =>
    unfold pbTo proofTo
    rw [ih (by omega)]
    congr 2
    unfold besideTo
    rw [List.getD_eq_getElem?_getD, List.getElem?_map, List.getElem?_range (by omega)]
    simp; omega
end Dp

set_option maxRecDepth 100000 in
set_option maxHeartbeats 1000000 in
theorem progPBytes (word : Int) (os : List Int) (w : World) (hw : Dp.isWord word) (hol : os.length = 8) (hob : ∀ x ∈ os, 0 ≤ x ∧ x < 65536) :
    Calls Tryz.prog 165 #[.agg (Dp.proofCells word os).toArray] w fun e w' => (∃ v, e = .returned v ∧ Dp.Own w' 5 v (Dp.vals (Dp.pbTo word os 8)) ∧ ∀ g, v.ownBlock = some g → w.heap.size ≤ g) ∧ Dp.Keeps (fun _ => False) w w' := by
  go_enter Tryz.func165, Tryz.ntmps165
  go_wp2_with (refine Dp.wpList_box_row rfl 213 _ rfl (Dp.proofCells word os) rfl ?_)
  intro w1 r1 z1 k1
  have c0 : w1.cell? ⟨w.heap.size, 0, none⟩ = some (.int .u32 word) := r1.cell 0
  have HR1 := Hid.mk_ r1
  clear r1
  go_wp2_with fail
  refine (progWord word _ hw).mono ?_
  rintro e w2 ⟨rfl, r2, z2, k2⟩
  have HP2 : Hid (Dp.Row w2 w.heap.size 213 ([.int .u32 word] ++ Dp.intCells os ++ [])) := by
    unfold Hid; rw [List.append_nil]; exact HR1.out.keep k2 (fun e => e)
  have HO : Hid ((Dp.intCells os).length = 8) := by unfold Hid Dp.intCells; rw [List.length_map]; exact hol
  have HOW : Hid (Dp.Own w2 5 (.slice (some ⟨w1.heap.size, 0, none⟩) 4 4) (Dp.vals (Dp.pbTo word os 0))) :=
    .inr ⟨w1.heap.size, [], rfl, by rw [List.append_nil]; exact r2, by simp [Dp.vals, Dp.pbTo, Dp.four_length, maxLen]⟩
  have HZ1 : Hid (w.heap.size ≤ w1.heap.size) := k1.size
  have HK2 := Hid.mk_ (k1.trans k2)
  clear r2 k1 k2 HR1 c0 z2 z1
  go_wp2_with (refine Dp.wpList_load_in rfl 67 _ rfl w.heap.size 1 rfl 213 _ _ _ HP2.out rfl _ Tryz.underlying67 rfl (by rw [sizeOthers, HO.out]) ?_)
  intro _
  go_wp2
  go_loopw [3, 5, 11] (fun t _ i wr => ∃ k : Nat, k ≤ 8 ∧ i = .int .i64 k ∧ Dp.Own wr 5 t (Dp.vals (Dp.pbTo word os k)) ∧ (∀ g, t.ownBlock = some g → w.heap.size ≤ g) ∧ Dp.Keeps (fun _ => False) w wr) (fun _ _ i _ => 8 - (intOf i).toNat)
  case atStart =>
    refine ⟨0, Nat.zero_le _, rfl, HOW.out, fun g hg => ?_, HK2.out⟩
    have e : w1.heap.size = g := by simpa [Value.ownBlock] using hg
    rw [← e]; exact HZ1.out
  case round =>
    obtain ⟨k, hk, rfl, ow, hf, kr⟩ := hrel
    clear HOW HK2 HP2 HZ1
    by_cases hlt : k < 8
    · have hx : (Dp.intCells os).toArray[k]? = some (.int .i64 (os.getD k 0)) := by
        simp [Dp.intCells, hol, hlt]
      have hidx : ∀ wx, (Instr.index 67 (.agg (Dp.intCells os).toArray) (.int .i64 (k : Int))).run Tryz.prog wx = .ok (.int .i64 (os.getD k 0)) wx := fun wx => Dp.run_index_one wx 67 3 8 _ k _ (by rfl) (by rfl) (by rfl) hlt hx
      have hb := Dp.getD_word hob k
      have HE : Hid (Dp.pbTo word os (k + 1) = Dp.pbTo word os k ++ Dp.two (os.getD k 0)) := rfl
      have HLN := Hid.mk_ (Dp.pbTo_length word os k)
      have HF := Hid.mk_ hf
      have HT2 := Hid.mk_ (Dp.two_length (os.getD k 0))
      clear hx hf
      generalize os.getD k 0 = O at *
      generalize Dp.pbTo word os k = X at *
      go_wp2_with fail
      refine (progTwo O _ hb).mono ?_
      rintro e w4 ⟨rfl, r4, z4, k4⟩
      have oa := ow.keep k4 (fun _ _ e => e)
      have NW := Hid.mk_ (Dp.vals_news r4)
      go_wp2_with (at_builtin; refine Dp.wpList_append_Own rfl _ _ 35 rfl 5 (.int .u8 0) 1 Tryz.underlying35 infoU8 rfl _ (Dp.vals X) rfl oa ⟨wr.heap.size, 0, none⟩ 2 2 (Dp.vals (Dp.two O)) rfl (by rw [Dp.vals_length, HT2.out]) NW.out (Dp.vals_one _) (by omega) (by rw [Dp.vals_length, HLN.out]; unfold maxLen; omega) (by rw [Dp.vals_length, HLN.out]; omega) ?_)
      intro v5 w5 o5 k5 s5
      rw [Dp.vals_append, ← HE.out] at o5
      have kr5 := (kr.trans k4).next k5 (fun i hi e => by have := HF.out i e; omega)
      have HF5 : Hid (∀ g, v5.ownBlock = some g → w.heap.size ≤ g) := fun g hg => by
        have hsz := (kr.trans k4).size
        rcases s5.out with hh | hh
        · exact HF.out g (hh.1 ▸ hg)
        · rw [hh.1] at hg; simp at hg; omega
      have HO5 := Hid.mk_ o5
      clear oa r4 z4 k4 k5 s5 o5 NW ow kr hidx
      go_wp2
      go_roundw
      case rel => exact ⟨k + 1, by omega, by go_num, HO5.out, HF5.out, kr5⟩
      case measure => simp [intOf]; omega
    · obtain rfl : k = 8 := by omega
      go_wp2
      go_ret
      exact ⟨⟨_, rfl, ow, hf⟩, kr⟩
end Go.Proofs.YtdipojfngdceoabGreatDoor
