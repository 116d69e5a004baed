/- Steps on the way: KeepOpened, KeepProven, OpenBase, OpenWide, ErrLaid. -/
import Derived.Test.YtdipojfngdceoaaDoorPack56
import Derived.Test.YtdipojfngdceoaaDoorPack70
import Derived.Test.YtdipojfngdceoaaDoorPack84
import Derived.Test.YtdipojfngdceoaaDoorRows
import Derived.ProofKit
import Derived.OpenShut
import Derived.Lib.SmallJoins
import Derived.LaidLaws
import Derived.LaidSub
/- A machine of raw numbers and texts, some steps on. -/
namespace Go.Proofs.YtdipojfngdceoaaDoor
open Go.RowKit

namespace Dp
theorem own_ints {w : World} {e : TypeId} {v : Value} {xs : List Int} (h : Own w e v (regCells xs)) (hl : xs.length ≤ 1048576) : Ints w v xs := by
  rcases h with ⟨rfl, h2⟩ | ⟨g, tail, rfl, h2, h3⟩
  · have : xs = [] := by cases xs with
      | nil => rfl
      | cons a b => simp [regCells] at h2
    subst this
    exact ⟨0, 0, none, 0, rfl, by simp, fun e => absurd rfl e, fun j hj => absurd hj (by simp)⟩
  · have hx : (regCells xs).length = xs.length := by simp [regCells]
    rw [hx]
    exact ints_row h2 hl
theorem raw_ok (raw : List Int) (texts : List (List UInt8)) : newOk (wordsRaw raw) (srcsRaw texts) = true := by
  unfold newOk
  simp only [Bool.and_eq_true, decide_eq_true_eq, List.all_eq_true]
  refine ⟨⟨⟨by simp [wordsRaw]; omega, by simp [srcsRaw]; omega⟩, ?_⟩, ?_⟩
  · intro x hx
    simp only [wordsRaw, List.mem_map] at hx
    obtain ⟨y, _, rfl⟩ := hx
    exact pickOf_bd y 4294967296 (by omega)
  · intro l hl
    simp only [srcsRaw, List.mem_map] at hl
    obtain ⟨y, _, rfl⟩ := hl
    exact cut200_length y
def openedMach (raw : List Int) (texts : List (List UInt8)) (ahead : Int) : Mach := (Mach.run (pickOf ahead 300).toNat (newMach (wordsRaw raw) (srcsRaw texts))).1
end Dp

set_option maxRecDepth 100000 in
set_option maxHeartbeats 1000000 in
theorem keepOpened (w : World) (v vt : Value) (raw : List Int) (texts : List (List UInt8)) (ahead : Int) (hW : Dp.IntsW w v raw) (h64 : ∀ x ∈ raw, -9223372036854775808 ≤ x ∧ x ≤ 9223372036854775807) (hT : Dp.TextsW w vt texts) (ha : -9223372036854775808 ≤ ahead ∧ ahead ≤ 9223372036854775807) :
    Calls Tryd.prog 12 #[v, vt, .int .i64 ahead] w fun e w' => (∃ b vs G, e = .returned (.pointer (some ⟨b, 0, none⟩)) ∧ w.heap.size ≤ b ∧ (∀ q, G q → w.heap.size ≤ q) ∧ Dp.ProgM w' b G vs (Dp.openedMach raw texts ahead)) ∧ Dp.Keeps (fun _ => False) w w' := by
  have HT := Hid.mk_ hT
  have HMA : Hid (Dp.openedMach raw texts ahead = (Dp.Mach.run (Dp.pickOf ahead 300).toNat (Dp.newMach (Dp.wordsRaw raw) (Dp.srcsRaw texts))).1) := rfl
  have hpb := Dp.pickOf_bd ahead 300 (by omega)
  clear hT
  go_enter Tryd.func12, Tryd.ntmps12
  go_wp2_with fail
  refine (keepWords w v raw hW h64).mono ?_
  rintro e w1 ⟨v1, rfl, ho1, hf1, k1⟩
  have HI := Hid.mk_ (Dp.own_ints ho1 (by simp [Dp.wordsRaw]; omega))
  clear ho1 hf1
  go_wp2_with fail
  refine (keepSources w1 vt texts (HT.out.still k1)).mono ?_
  rintro e w2 ⟨v2, rfl, hp2, k2⟩
  have HP := Hid.mk_ hp2
  have HK2 := Hid.mk_ (k1.trans k2)
  have HI2 := Hid.mk_ (HI.out.still k2)
  clear k1 k2 hp2 HI
  go_wp2_with fail
  refine (progNew w2 v1 v2 _ _ HI2.out HP.out (Dp.raw_ok raw texts)).mono ?_
  rintro e w3 ⟨⟨b, vs, G, rfl, hb, hG, hM⟩, k3⟩
  have HM := Hid.mk_ hM
  have hs2 := HK2.out.size
  have hb' : w.heap.size ≤ b := by omega
  have HG : Hid (∀ q, G q → w.heap.size ≤ q) := fun q hq => by have := hG q hq; omega
  have HK3 := Hid.mk_ (HK2.out.trans k3)
  clear hM hG hb k3 HK2 HI2 HP hs2
  go_wp2_with fail
  refine (keepPick ahead 300 _ ha (by omega) (by omega)).mono ?_
  rintro e w4 ⟨rfl, rfl⟩
  obtain ⟨n, hn⟩ : ∃ n : Nat, Dp.pickOf ahead 300 = (n : Int) := ⟨(Dp.pickOf ahead 300).toNat, by omega⟩
  rw [hn] at HMA hpb ⊢
  rw [Int.toNat_natCast] at HMA
  go_wp2_with fail
  refine (progMRun w4 b G vs _ HM.out n (by omega)).mono ?_
  rintro e w5 ⟨rfl, k5, hM5⟩
  have HM5 : Hid (Dp.ProgM w5 b G vs (Dp.openedMach raw texts ahead)) := by rw [HMA.out]; exact hM5
  have HK5 : Hid (Dp.Keeps (fun _ => False) w w5) := HK3.out.next k5 (fun q hq e => by omega)
  clear hM5 k5 HK3 HM
  generalize (Dp.Mach.run n (Dp.newMach (Dp.wordsRaw raw) (Dp.srcsRaw texts))).2.1 = A1 at *
  generalize (Dp.Mach.run n (Dp.newMach (Dp.wordsRaw raw) (Dp.srcsRaw texts))).2.2 = A2 at *
  go_wp2
  go_ret
  exact ⟨⟨b, vs, G, rfl, hb', HG.out, HM5.out⟩, HK5.out⟩
end Go.Proofs.YtdipojfngdceoaaDoor

/- Each step can be proven: the walk. -/
namespace Go.Proofs.YtdipojfngdceoaaDoor
open Go.RowKit

set_option maxRecDepth 100000 in
set_option maxHeartbeats 1000000 in
theorem keepProven (w : World) (eb : Addr) (v vt : Value) (raw : List Int) (texts : List (List UInt8)) (steps : Int) (he : Dp.ErrAt w eb) (hW : Dp.IntsW w v raw) (h64 : ∀ x ∈ raw, -9223372036854775808 ≤ x ∧ x ≤ 9223372036854775807) (hT : Dp.TextsW w vt texts) (hs : -9223372036854775808 ≤ steps ∧ steps ≤ 9223372036854775807) :
    Calls Tryd.prog 4 #[v, vt, .int .i64 steps] w fun e w' => e = .returned (.bool true) ∧ Dp.Keeps (fun _ => False) w w' := by
  have HE := Hid.mk_ he
  clear he
  go_enter Tryd.func4, Tryd.ntmps4
  go_wp2_with fail
  refine (keepSure w eb HE.out).mono ?_
  rintro e w1 ⟨rfl, k1⟩
  have HK1 := Hid.mk_ k1
  clear k1
  go_wp2_with fail
  refine (keepOpened w1 v vt raw texts 0 (hW.still HK1.out) h64 (hT.still HK1.out) (by omega)).mono ?_
  rintro e w2 ⟨⟨b, vs, G, rfl, hb, hG, hM⟩, k2⟩
  have HM := Hid.mk_ hM
  have HK2 := Hid.mk_ (HK1.out.trans k2)
  have hb' : w.heap.size ≤ b := by have := HK1.out.size; omega
  clear hM k2 HK1 hb hG hW hT h64
  go_wp2
  go_loopw [9] (fun i wr => ∃ (k : Nat) (m : Dp.Mach), k ≤ 60 ∧ i = .int .i64 k ∧ Hid (Dp.ProgM wr b G vs m) ∧ Hid (Dp.Keeps (fun _ => False) w wr)) (fun i _ => 60 - (intOf i).toNat)
  case atStart => exact ⟨0, _, by omega, rfl, HM, HK2⟩
  case round =>
    obtain ⟨k, m, hk, rfl, HMr, HKr⟩ := hrel
    clear HM HK2
    have hpb := Dp.pickOf_bd steps 60 (by omega)
    go_wp2_with fail
    refine (keepPick steps 60 _ hs (by omega) (by omega)).mono ?_
    rintro e w3 ⟨rfl, rfl⟩
    generalize Dp.pickOf steps 60 = P at *
    by_cases hlt : (k : Int) < P
    · have H0 : Hid (Dp.witnessOf m = if m.step.2 ≠ 0 then [] else Dp.label m.s (Dp.root m.cells) ++ Dp.shown m) := rfl
      go_wp2_with fail
      refine (progMStamp w3 b G vs m HMr.out).mono ?_
      rintro e w4 ⟨rfl, k4⟩
      have HM4 := Hid.mk_ (HMr.out.keep k4 (fun e => e) (fun _ _ e => e))
      have HK4 := Hid.mk_ (HKr.out.trans k4)
      clear k4 HMr HKr
      go_wp2_with fail
      refine (progMWitness w4 b G vs m HM4.out).mono ?_
      rintro e w5 ⟨v5, rfl, ho, hf, k5⟩
      have HM5 := Hid.mk_ (HM4.out.keep k5 (fun e => e) (fun _ _ e => e))
      have HK5 := Hid.mk_ (HK4.out.trans k5)
      have HO := Hid.mk_ ho
      obtain ⟨va, vc, ev⟩ := ho.isSlice
      subst ev
      generalize hL : (Dp.vals (Dp.witnessOf m)).length = L at *
      have HL := Hid.mk_ hL
      clear HM4 HK4 k5 ho hf hL
      go_wp2_with fail
      refine (keepCheck w5 eb m 5 _ (HE.out.keep HK5.out) HM5.out.ok HO.out).mono ?_
      rintro e w6 ⟨rfl, k6⟩
      have HM6 := Hid.mk_ (HM5.out.keep k6 (fun e => e) (fun _ _ e => e))
      have HK6 := Hid.mk_ (HK5.out.trans k6)
      have HT1 : Hid (Dp.told1 m = if m.step.2 = 0 then Dp.stamp m.step.1.s (Dp.root m.step.1.cells) else 0) := rfl
      have HT2 : Hid (Dp.told2 m = if m.step.2 = 0 then 0 else 6) := rfl
      clear HM5 HK5 k6 HO
      go_wp2_with fail
      refine (progMStamp w6 b G vs m HM6.out).mono ?_
      rintro e w7 ⟨rfl, k7⟩
      have HM7 := Hid.mk_ (HM6.out.keep k7 (fun e => e) (fun _ _ e => e))
      have HK7 := Hid.mk_ (HK6.out.trans k7)
      clear HM6 HK6 k7
      go_wp2_with fail
      refine (progMStep w7 b G vs m HM7.out).mono ?_
      rintro e w8 ⟨rfl, k8, hM8⟩
      have HM8 := Hid.mk_ hM8
      have HK8 : Hid (Dp.Keeps (fun _ => False) w w8) := HK7.out.next k8 (fun q hq e => by omega)
      clear HM7 HK7 k8 hM8
      by_cases h0 : m.step.2 = 0
      · rw [HT1.out, HT2.out, if_pos h0, if_pos h0, h0]
        generalize Dp.stamp m.s (Dp.root m.cells) = S at *
        go_wp2_with fail
        refine (progMStamp w8 b G vs _ HM8.out).mono ?_
        rintro e w9 ⟨rfl, k9⟩
        have HM9 := Hid.mk_ (HM8.out.keep k9 (fun e => e) (fun _ _ e => e))
        have HK9 := Hid.mk_ (HK8.out.trans k9)
        clear HM8 HK8 k9
        generalize Dp.stamp m.step.1.s (Dp.root m.step.1.cells) = S2 at *
        go_wp2
        go_roundw
        case rel => exact ⟨k + 1, _, by omega, by go_num, HM9, HK9⟩
        case measure => simp [intOf]; omega
      · have hl0 : L = 0 := by rw [← HL.out, H0.out, if_pos h0]; rfl
        subst hl0
        rw [HT1.out, HT2.out, if_neg h0, if_neg h0]
        have HSM := Hid.mk_ (Dp.step_same m h0)
        generalize hS : Dp.stamp m.s (Dp.root m.cells) = S at *
        have HS := Hid.mk_ hS
        clear hS
        go_wp2_with fail
        refine (progMStamp w8 b G vs _ HM8.out).mono ?_
        rintro e w9 ⟨rfl, k9⟩
        have HK9 := Hid.mk_ (HK8.out.trans k9)
        rw [HSM.out, HS.out]
        clear HM8 HK8 k9
        go_wp2
        go_ret
        exact ⟨rfl, HK9.out⟩
    · go_wp2
      go_ret
      exact ⟨rfl, HKr.out⟩
end Go.Proofs.YtdipojfngdceoaaDoor

/- What arguments hold: the common part. -/
namespace Go.Proofs.YtdipojfngdceoaaDoor
open Go.ChangeShapes Go.WideShapes Go.ChangeAt Go.RowKit

theorem cellsInt : Tryd.prog.cellsOf 3 = 1 := by kernel_rfl
theorem cellsStr : Tryd.prog.cellsOf 9 = 1 := by kernel_rfl
theorem cellsBool : Tryd.prog.cellsOf 4 = 1 := by kernel_rfl

namespace Dp
theorem exists_list {α : Type} {P : Nat → α → Prop} : ∀ n, (∀ i, i < n → ∃ o, P i o) → ∃ l : List α, l.length = n ∧ ∀ i (h : i < l.length), P i l[i]
  | 0, _ => ⟨[], rfl, fun i h => absurd h (by simp)⟩
  | n + 1, h => by
    obtain ⟨l, hl, hp⟩ := exists_list n (fun i hi => h i (by omega))
    obtain ⟨o, ho⟩ := h n (by omega)
    refine ⟨l ++ [o], by simp [hl], fun i hi => ?_⟩
    by_cases hin : i < l.length
    · rw [List.getElem_append_left hin]; exact hp i hin
    · have : i = n := by simp at hi; omega
      subst this
      rw [List.getElem_append_right (by omega)]; simpa [hl] using ho
theorem five {α : Type} {l : List α} (h : l.length = 5) : ∃ a b c d e, l = [a, b, c, d, e] := by
  match l, h with
  | [a, b, c, d, e], _ => exact ⟨a, b, c, d, e, rfl⟩
theorem add_off (b o i : Nat) : (⟨b, o, none⟩ : Addr).add i = ⟨b, o + i, none⟩ := by unfold Addr.add; split <;> simp_all
theorem add_add (a : Addr) (i j : Nat) : (a.add i).add j = a.add (i + j) := by
  unfold Addr.add
  by_cases hi : i = 0
  · subst hi; simp
  · by_cases hj : j = 0
    · subst hj; simp
    · rw [if_neg hj, if_neg hi, if_neg (show ¬ i + j = 0 by omega)]
      simp [Nat.add_assoc]
theorem mapM_at {α β : Type} {f : α → Option β} : ∀ (l : List α) (cs : List β), l.mapM f = some cs → ∀ j (h : j < l.length), f l[j] = cs[j]?
  | [], _, _, j, h => absurd h (by simp)
  | x :: l, cs, h, j, hj => by
    rw [List.mapM_cons] at h
    simp only [Option.bind_eq_bind, Option.bind_eq_some_iff] at h
    obtain ⟨y, hy, ys, hys, hcs⟩ := h
    have hcs' : cs = y :: ys := by simpa using hcs.symm
    subst hcs'
    cases j with
    | zero => exact hy
    | succ j => exact mapM_at l ys hys j (by simpa using hj)
theorem cells_at {w : World} {base : Nat} {a : Addr} {n : Nat} {cs : List Value} (h : w.cells? base a n = some cs) (j : Nat) (hj : j < n) : w.cell? (a.add j) = cs[j]? := by
  unfold World.cells? at h
  split at h
  · have := mapM_at _ _ h j (by simpa using hj)
    simpa using this
  · exact absurd h (by simp)
theorem bulkAll_length {H : Type} : ∀ l : List (DataW H), l.length ≤ Rows.uptoBulkAll l
  | [] => Nat.le_refl _
  | d :: l => by
    have := bulkAll_length l
    have h1 : 1 ≤ Rows.uptoBulk d := by
      cases d
      case lit x => cases x <;> simp only [Rows.uptoBulk] <;> omega
      all_goals (simp only [Rows.uptoBulk]; try omega)
    simp only [List.length_cons, Rows.uptoBulkAll]; omega
theorem bulkAll_mem {H : Type} {d : DataW H} : ∀ {l : List (DataW H)}, d ∈ l → Rows.uptoBulk d ≤ Rows.uptoBulkAll l
  | x :: l, h => by
    simp only [List.mem_cons] at h
    simp only [Rows.uptoBulkAll]
    rcases h with rfl | h
    · omega
    · have := bulkAll_mem h; omega
end Dp

end Go.Proofs.YtdipojfngdceoaaDoor

/- What arguments hold, however great they are: a list of numbers, a list of texts. -/
namespace Go.Proofs.YtdipojfngdceoaaDoor
open Go.ChangeShapes Go.WideShapes Go.ChangeAt Go.RowKit

section
variable {H : Type} {enc : TypeId × Value → H} {W : World} {fuel : Nat} {v : Value} {y : DataW H × List MemPlace}

theorem ints_wide (h : DataW.trod enc Tryd.prog W 0 (fun _ => true) true fuel 37 [v] = some y) (hp : ∀ x ∈ y.2, x.block < W.heap.size) :
    ∃ l, Dp.IntsW W v l ∧ ∀ x ∈ l, -9223372036854775808 ≤ x ∧ x ≤ 9223372036854775807 := by
  rcases open_ints Tryd.underlying37 Tryd.underlying3 cellsInt h with ⟨hcs, rfl⟩ | ⟨a, len, cap, zs, hcs, _, hl, hm, hz, rfl, hcell, hws⟩
  · obtain rfl : v = .slice none 0 0 := by simpa using hcs
    exact ⟨[], ⟨0, 0, none, 0, rfl, by simp [maxLen], fun e => absurd rfl e, fun i hi => absurd hi (by simp)⟩, fun x hx => by simp at hx⟩
  · obtain rfl : v = .slice (some a) len cap := by simpa using hcs
    simp only [if_true] at hz
    have hlen : (zs.take len).length = len := by simp; omega
    refine ⟨zs.take len, ?_, fun x hx => bounds_i64 (hws x (List.mem_of_mem_take hx))⟩
    by_cases h0 : len = 0
    · subst h0
      exact ⟨0, 0, some a, cap, by simp, by simp [maxLen], fun e => absurd (by simp) e, fun i hi => absurd hi (by simp)⟩
    · obtain ⟨b, off, spot⟩ := a
      have hspot : spot = none := by simpa [Addr.add] using World.cell?_spot (hcell 0 (by omega))
      subst hspot
      have hbW : b < W.heap.size := hp (.cell b off) (MemPlace.mem_row.2 ⟨0, by omega, by simp⟩)
      refine ⟨b, off, _, _, by rw [hlen], by omega, fun _ => ⟨rfl, hbW⟩, fun i hi => ?_⟩
      have hi' : i < len := by omega
      rw [← Dp.add_off, hcell i (by omega)]
      simp [List.getElem_take, List.getD_eq_getElem?_getD, List.getElem?_eq_getElem (show i < zs.length by omega)]

theorem texts_wide (h : DataW.trod enc Tryd.prog W 0 (fun _ => true) true fuel 38 [v] = some y) (hp : ∀ x ∈ y.2, x.block < W.heap.size) :
    ∃ l, Dp.TextsW W v l := by
  rcases open_strings Tryd.underlying38 Tryd.underlying9 cellsStr h with ⟨hcs, rfl⟩ | ⟨a, len, cap, ss, hcs, _, hl, hm, hz, rfl, hcell, hws⟩
  · obtain rfl : v = .slice none 0 0 := by simpa using hcs
    exact ⟨[], 0, 0, none, 0, rfl, by simp [maxLen], fun e => absurd rfl e, fun i hi => absurd hi (by simp)⟩
  · obtain rfl : v = .slice (some a) len cap := by simpa using hcs
    simp only [if_true] at hz
    have hlen : (ss.take len).length = len := by simp; omega
    have hsl : ∀ s ∈ ss.take len, s.data.toList.length ≤ maxLen := by
      intro s hs
      have := hws s (List.mem_of_mem_take hs)
      simpa using this
    refine ⟨(ss.take len).map (fun s => s.data.toList), ?_⟩
    by_cases h0 : len = 0
    · subst h0
      exact ⟨0, 0, some a, cap, by simp, by simp [maxLen], fun e => absurd (by simp) e, fun i hi => absurd hi (by simp)⟩
    · obtain ⟨b, off, spot⟩ := a
      have hspot : spot = none := by simpa [Addr.add] using World.cell?_spot (hcell 0 (by omega))
      subst hspot
      have hbW : b < W.heap.size := hp (.cell b off) (MemPlace.mem_row.2 ⟨0, by omega, by simp⟩)
      refine ⟨b, off, _, _, by rw [List.length_map, hlen], by rw [List.length_map]; omega, fun _ => ⟨rfl, hbW⟩, fun i hi => ?_⟩
      have hi' : i < len := by rw [List.length_map] at hi; omega
      refine ⟨?_, ?_⟩
      · rw [List.getElem_map]; exact hsl _ (List.getElem_mem _)
      · rw [← Dp.add_off, hcell i (by omega)]
        simp [Dp.str, List.getElem_take, List.getD_eq_getElem?_getD, List.getElem?_eq_getElem (show i < ss.length by omega)]
end
end Go.Proofs.YtdipojfngdceoaaDoor

/- What the listed variable holds: the error that a witness is given up with. -/
namespace Go.Proofs.YtdipojfngdceoaaDoor
open Go.ChangeShapes Go.WideShapes Go.RowKit

theorem gErr : Tryd.prog.globalNamed "deponent/parts.ErrWrong" = some 0 := by kernel_rfl
theorem tErrG : (Tryd.prog.globals[0]?).map (·.type) = some 135 := by kernel_rfl
theorem starErr : "*" ++ "errors.errorString" = "*errors.errorString" := by decide
theorem rowErr (u : TypeId) (h : Tryd.prog.typeName? 3 u = some "*errors.errorString") : u = 167 :=
  typeName_ptr_named (nm := "errors.errorString") (by rw [starErr]; kernel_rfl) (by kernel_rfl) (by decide) u (by rw [starErr]; exact h)

theorem cellsErrS : Tryd.prog.cellsOf 193 = 1 := by kernel_rfl
theorem cellsStrS : Tryd.prog.cellsOf 9 = 1 := by kernel_rfl

set_option maxRecDepth 100000 in
theorem err_of_laid {W : World} (h : laidMetH Tryd.prog [("deponent/parts.ErrWrong", Rows.laid_deponent_parts_ErrWrong)] W) : ∃ eb, Dp.ErrAt W eb := by
  have h' : laidMet Tryd.prog [("deponent/parts.ErrWrong", Rows.laid_deponent_parts_ErrWrong)] W := h
  obtain ⟨ps, ⟨g0, t0, cs0, f0, p0, q0, hg0, ht0, hv0, hd0, hq, e0⟩, hnd, hrows⟩ := h'
  obtain rfl := Option.some.inj (gErr.symm.trans hg0)
  obtain rfl := Option.some.inj (tErrG.symm.trans ht0)
  have hq' : q0 = [] := hq
  subst hq'
  subst e0
  obtain ⟨l0⟩ := cs0
  have ok0 : ∀ u v, l0 = [.iface u v] → Value.okWide Tryd.prog W .any 0 u v := fun u v e => by
    subst e
    exact (hrows 0 0 (by simp [MemPlace.row])).2 u v (by simpa using World.var?_cell hg0 hv0 0)
  obtain ⟨a0, s0, rfl, hc0, hs0, hz0, rfl⟩ := errorString_of_trod Tryd.underlying135 rowErr Tryd.underlying167 Tryd.underlying193 rfl rfl Tryd.underlying9 cellsErrS cellsStrS hd0 ok0
  exact ⟨a0, by have := World.var?_cell hg0 hv0 0; simpa [Dp.ErrAt] using this⟩
end Go.Proofs.YtdipojfngdceoaaDoor
