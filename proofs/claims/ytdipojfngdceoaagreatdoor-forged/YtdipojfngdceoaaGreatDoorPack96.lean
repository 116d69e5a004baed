/- Steps on the way: KeepOpened, RowsTwo, KeepText, OwnRow2. -/
import Derived.Test.YtdipojfngdceoaaGreatDoorPack01
import Derived.Test.YtdipojfngdceoaaGreatDoorPack32
import Derived.Test.YtdipojfngdceoaaGreatDoorPack84
import Derived.Test.YtdipojfngdceoaaGreatDoorPack95
/- A machine of raw numbers and texts, some steps on. -/
namespace Go.Proofs.YtdipojfngdceoaaGreatDoor
open Go.RowKit

namespace Dp
theorem own_ints {w : World} {e : TypeId} {v : Value} {xs : List Int} (h : Own w e v (regCells xs)) (hl : xs.length ≤ 1048576) : Ints w v xs := by
  rcases h with ⟨rfl, h2⟩ | ⟨g, tail, rfl, h2, h3⟩
  · have : xs = [] := by cases xs with
      | nil => rfl
      | cons a b => simp [regCells] at h2
    subst this
    exact ⟨0, 0, none, 0, rfl, by simp, fun e => absurd rfl e, fun j hj => absurd hj (by simp)⟩
  · have hx : (regCells xs).length = xs.length := by simp [regCells]
    rw [hx]
    exact ints_row h2 hl
theorem raw_ok (raw : List Int) (texts : List (List UInt8)) : newOk (wordsRaw raw) (srcsRaw texts) = true := by
  unfold newOk
  simp only [Bool.and_eq_true, decide_eq_true_eq, List.all_eq_true]
  refine ⟨⟨⟨by simp [wordsRaw]; omega, by simp [srcsRaw]; omega⟩, ?_⟩, ?_⟩
  · intro x hx
    simp only [wordsRaw, List.mem_map] at hx
    obtain ⟨y, _, rfl⟩ := hx
    exact pickOf_bd y 4294967296 (by omega)
  · intro l hl
    simp only [srcsRaw, List.mem_map] at hl
    obtain ⟨y, _, rfl⟩ := hl
    exact cut200_length y
def openedMach (raw : List Int) (texts : List (List UInt8)) (ahead : Int) : Mach := (Mach.run (pickOf ahead 300).toNat (newMach (wordsRaw raw) (srcsRaw texts))).1
end Dp

set_option maxRecDepth 100000 in
set_option maxHeartbeats 1000000 in
theorem keepOpened (w : World) (v vt : Value) (raw : List Int) (texts : List (List UInt8)) (ahead : Int) (hW : Dp.IntsW w v raw) (h64 : ∀ x ∈ raw, -9223372036854775808 ≤ x ∧ x ≤ 9223372036854775807) (hT : Dp.TextsW w vt texts) (ha : -9223372036854775808 ≤ ahead ∧ ahead ≤ 9223372036854775807) :
    Calls Tryz.prog 16 #[v, vt, .int .i64 ahead] w fun e w' => (∃ b vs G, e = .returned (.pointer (some ⟨b, 0, none⟩)) ∧ w.heap.size ≤ b ∧ (∀ q, G q → w.heap.size ≤ q) ∧ Dp.ProgM w' b G vs (Dp.openedMach raw texts ahead)) ∧ Dp.Keeps (fun _ => False) w w' := by
  have HT := Hid.mk_ hT
  have HMA : Hid (Dp.openedMach raw texts ahead = (Dp.Mach.run (Dp.pickOf ahead 300).toNat (Dp.newMach (Dp.wordsRaw raw) (Dp.srcsRaw texts))).1) := rfl
  have hpb := Dp.pickOf_bd ahead 300 (by omega)
  clear hT
  go_enter Tryz.func16, Tryz.ntmps16
  go_wp2_with fail
  refine (keepWords w v raw hW h64).mono ?_
  rintro e w1 ⟨v1, rfl, ho1, hf1, k1⟩
  have HI := Hid.mk_ (Dp.own_ints ho1 (by simp [Dp.wordsRaw]; omega))
  clear ho1 hf1
  go_wp2_with fail
  refine (keepSources w1 vt texts (HT.out.still k1)).mono ?_
  rintro e w2 ⟨v2, rfl, hp2, k2⟩
  have HP := Hid.mk_ hp2
  have HK2 := Hid.mk_ (k1.trans k2)
  have HI2 := Hid.mk_ (HI.out.still k2)
  clear k1 k2 hp2 HI
  go_wp2_with fail
  refine (progNew w2 v1 v2 _ _ HI2.out HP.out (Dp.raw_ok raw texts)).mono ?_
  rintro e w3 ⟨⟨b, vs, G, rfl, hb, hG, hM⟩, k3⟩
  have HM := Hid.mk_ hM
  have hs2 := HK2.out.size
  have hb' : w.heap.size ≤ b := by omega
  have HG : Hid (∀ q, G q → w.heap.size ≤ q) := fun q hq => by have := hG q hq; omega
  have HK3 := Hid.mk_ (HK2.out.trans k3)
  clear hM hG hb k3 HK2 HI2 HP hs2
  go_wp2_with fail
  refine (keepPick ahead 300 _ ha (by omega) (by omega)).mono ?_
  rintro e w4 ⟨rfl, rfl⟩
  obtain ⟨n, hn⟩ : ∃ n : Nat, Dp.pickOf ahead 300 = (n : Int) := ⟨(Dp.pickOf ahead 300).toNat, by omega⟩
  rw [hn] at HMA hpb ⊢
  rw [Int.toNat_natCast] at HMA
  go_wp2_with fail
  refine (progMRun w4 b G vs _ HM.out n (by omega)).mono ?_
  rintro e w5 ⟨rfl, k5, hM5⟩
  have HM5 : Hid (Dp.ProgM w5 b G vs (Dp.openedMach raw texts ahead)) := by rw [HMA.out]; exact hM5
  have HK5 : Hid (Dp.Keeps (fun _ => False) w w5) := HK3.out.next k5 (fun q hq e => by omega)
  clear hM5 k5 HK3 HM
  generalize (Dp.Mach.run n (Dp.newMach (Dp.wordsRaw raw) (Dp.srcsRaw texts))).2.1 = A1 at *
  generalize (Dp.Mach.run n (Dp.newMach (Dp.wordsRaw raw) (Dp.srcsRaw texts))).2.2 = A2 at *
  go_wp2
  go_ret
  exact ⟨⟨b, vs, G, rfl, hb', HG.out, HM5.out⟩, HK5.out⟩
end Go.Proofs.YtdipojfngdceoaaGreatDoor

/- Lists of pairs: made, and copied onto the head of a row. It holds of every program. -/
namespace Go.Proofs.YtdipojfngdceoaaGreatDoor
namespace Dp
open Go.RowKit

def pairs (a b : Value) (n : Nat) : List Value := (madeCells #[a, b] (n * 2)).toList
theorem pairs_length (a b : Value) (n : Nat) : (pairs a b n).length = n * 2 := by
  unfold pairs; rw [Array.length_toList, size_madeCells]
theorem pairs_last (a b : Value) (n : Nat) : (pairs a b (n + 1)).drop (n * 2) = [a, b] := by
  apply List.ext_getElem
  · rw [List.length_drop, pairs_length]; simp; omega
  · intro i h1 h2
    rw [List.getElem_drop]
    simp at h2
    rcases (by omega : i = 0 ∨ i = 1) with rfl | rfl
    · simp [pairs, madeCells]
    · have : (n * 2 + 1) % 2 = 1 := by omega
      simp [pairs, madeCells, this]

theorem wpList_make_pairs {P : Program} (w : World) {ops : Array Oper} {rest : List Oper} {o : Oper} {a : Act} {Q : Exit → Act → World → Prop}
    (hg : o.guard = none) (l c : Operand) (t : TypeId) (hop : o.op = Op.makeSlice t l c)
    (e : TypeId) (x y : Value) (bytes : Nat) (h1 : P.underlying t = some (.slice e)) (h2 : (P.info? e).map (fun i => (i.zero, i.size, i.bytes)) = some (some (.agg #[x, y]), 2, bytes))
    (kl kc : IntKind) (L C : Int) (n : Nat) (hl : a.eval l = .int kl L) (hc : a.eval c = .int kc C) (hL : L = (n : Int)) (hC : C = (n : Int)) (b2 : bytes * n ≤ 281474976710656) (b3 : n ≤ maxLen)
    (hK : ∀ w', Row w' w.heap.size e (pairs x y n) → w'.heap.size = w.heap.size + 1 → Keeps (fun _ => False) w w' → wpList P ops Q rest (a.put o.dst (.slice (some ⟨w.heap.size, 0, none⟩) n n)) w') :
    wpList P ops Q (o :: rest) a w := by
  refine wpList_plain hg fun K hK' => ?_
  obtain ⟨i, hi, hz0, hz1, hz2⟩ := info_parts h2
  subst hL
  subst hC
  unfold maxLen at b3
  have hrun := run_make (P := P) w t e i _ h1 hi hz0 kl kc (n : Int) (n : Int) (by omega) (Int.le_refl _) (by rw [hz2, ← Int.natCast_mul]; omega) (by omega)
  rw [hz1, Int.toNat_natCast] at hrun
  unfold Oper.wp
  simp only [execOp, hop, hl, hc, hrun, Result.andThen, Sem.run_bind]
  have hr := Row.allocNew w e (pairs x y n)
  unfold pairs at hr
  rw [Array.toArray_toList] at hr
  exact hK' _ _ (hK _ (by unfold pairs; exact hr) (by simp) ((Keeps.refl _ _).alloc _))

theorem run_copy_wide {P : Program} (w : World) (dT sT ty elem : TypeId) (g dLen dCap : Nat) (sp : Option Addr) (sLen sCap k : Nat) (cur : List Value) (t : TypeId) (cs : List Value)
    (hu : P.underlying dT = some (.slice elem)) (hs : (P.info? elem).map (·.size) = some k)
    (hg : Row w g t cur) (hn : cs.length = sLen * k) (hle : sLen ≤ dLen)
    (hsrc : 0 < cs.length → ∃ a, sp = some a ∧ ∀ j v, cs[j]? = some v → w.cell? (a.add j) = some v) (hfit : cs.length ≤ cur.length) (h1 : ∀ v ∈ cs, v.oneCell' = true) :
    (Builtin.copy_ #[dT, sT] ty #[.slice (some ⟨g, 0, none⟩) dLen dCap, .slice sp sLen sCap]).run P w =
      .ok (goInt sLen) (w.setRow g (cs ++ cur.drop cs.length).toArray) := by
  have hmin : Nat.min sLen dLen = sLen := Nat.min_eq_left hle
  have hst := run_storeCells_at P g 0 t cs 0 cur.toArray w hg (by simpa using hfit) h1
  simp only [Nat.add_zero, List.take_zero, List.nil_append, Nat.zero_add] at hst
  cases hq : P.info? elem with
  | none => simp [hq] at hs
  | some i =>
    have hi : i.size = k := by simpa [hq] using hs
    cases sp with
    | none =>
      have h0 : cs.length = 0 := by
        rcases Nat.eq_zero_or_pos cs.length with h | h
        · exact h
        · obtain ⟨a, e, _⟩ := hsrc h; cases e
      obtain rfl : cs = [] := List.eq_nil_of_length_eq_zero h0
      simp [Builtin.copy_, run_underlying hu, Builtin.lenOf, Builtin.firstCells, sizeOf, typeInfo, hq, hmin, storeCells]
      simpa [storeCells] using hst
    | some a =>
      have hl : (loadCells a (sLen * k)).run P w = .ok cs.toArray w := by
        rw [← hn]
        refine run_loadCells_list (P := P) w a cs fun j v hj => ?_
        have hpos : 0 < cs.length := by have := (List.getElem?_eq_some_iff.1 hj).1; omega
        obtain ⟨a', e, hh⟩ := hsrc hpos
        cases e
        exact hh j v hj
      simp [Builtin.copy_, run_underlying hu, Builtin.lenOf, Builtin.firstCells, sizeOf, typeInfo, hq, hi, hmin, hl, hst]

theorem wpList_copy_wide {P : Program} {w : World} {ops : Array Oper} {rest : List Oper} {o : Oper} {a : Act} {Q : Exit → Act → World → Prop} (hgd : o.guard = none) (d s : Operand) (dT sT : TypeId)
    (ho : o.op = .call { callee := .builtin .copy, args := #[d, s], argTypes := #[dT, sT] }) (elem : TypeId) (k : Nat) (hu : P.underlying dT = some (.slice elem)) (hsz : (P.info? elem).map (·.size) = some k)
    (g dLen dCap : Nat) (sp : Option Addr) (sLen sCap : Nat) (hd : a.eval d = .slice (some ⟨g, 0, none⟩) dLen dCap) (hs : a.eval s = .slice sp sLen sCap)
    (t : TypeId) (cs cur : List Value) (hg : Row w g t cur) (hn : cs.length = sLen * k) (hle : sLen ≤ dLen) (hfit : cs.length ≤ cur.length) (h1 : ∀ v ∈ cs, v.oneCell' = true)
    (hsrc : 0 < cs.length → ∃ ad, sp = some ad ∧ ∀ j v, cs[j]? = some v → w.cell? (ad.add j) = some v)
    (hK : ∀ w', Row w' g t (cs ++ cur.drop cs.length) → w'.heap.size = w.heap.size → Keeps (fun k => k = g) w w' → wpList P ops Q rest (a.put o.dst (goInt sLen)) w') : wpList P ops Q (o :: rest) a w := by
  refine wpList_plain hgd fun K hK' => ?_
  have hrun := run_copy_wide (P := P) w dT sT o.type elem g dLen dCap sp sLen sCap k cur t cs hu hsz hg hn hle hsrc hfit h1
  unfold Oper.wp
  simp [execOp, ho, resolve, invoke, builtin, hd, hs, hrun, Result.andThen]
  exact hK' _ _ (hK _ (hg.setRow _) (by simp) ((Keeps.refl (fun k => k = g) w).setRow (.inr rfl) _))
end Dp
end Go.Proofs.YtdipojfngdceoaaGreatDoor

/- Texts that are lent, looked at again, compared. -/
namespace Go.Proofs.YtdipojfngdceoaaGreatDoor
open Go.RowKit

theorem infoU82 : (Tryz.prog.info? 5).map (fun i => (i.zero, i.size, i.bytes)) = some (some (.int .u8 0), 1, 1) := by kernel_rfl
theorem sizeU82 : (Tryz.prog.info? 5).map (·.size) = some 1 := by kernel_rfl
namespace Dp
theorem bytes_parts {w : World} {v : Value} {l : List UInt8} (h : Bytes w v l) : Parts (w.alloc (.cells #[v] 47)) (.slice (some ⟨w.heap.size, 0, none⟩) 1 1) [l] := by
  refine ⟨w.heap.size, 0, _, 1, rfl, by simp [maxLen], fun _ => rfl, fun i hi => ?_⟩
  obtain rfl : i = 0 := by simp at hi; exact hi
  exact ⟨v, (Row.allocNew w 47 [v]).cell 0, h.still ((Keeps.refl (fun _ => False) w).alloc _)⟩
def lentCells (l : List UInt8) : List Value := vals l ++ [.int .u8 61, .int .u8 62]
end Dp

set_option maxRecDepth 100000 in
set_option maxHeartbeats 1000000 in
theorem keepLent (w : World) (v : Value) (l : List UInt8) (hv : Dp.Bytes w v l) (hl : l.length ≤ 16777216) :
    Calls Tryz.prog 41 #[v] w fun e w' => e = .returned (.slice (some ⟨w.heap.size, 0, none⟩) (l.length + 2) (l.length + 2)) ∧ Dp.Row w' w.heap.size 5 (Dp.lentCells l) ∧ w'.heap.size = w.heap.size + 1 ∧ Dp.Keeps (fun _ => False) w w' := by
  obtain ⟨b, o, ad, cap, rfl, hlm, hne, hc⟩ := hv
  have HC := Hid.mk_ hc
  have HN := Hid.mk_ hne
  clear hc hne hlm
  go_enter Tryz.func41, Tryz.ntmps41
  go_wp2_with (at_make; refine Dp.wpList_make_row _ rfl _ _ 47 rfl 5 (.int .u8 0) 1 Tryz.underlying47 infoU82 rfl _ _ _ _ (l.length + 2) rfl rfl (by omega) (by omega) (by omega) (by unfold maxLen; omega) ?_)
  intro w1 r1 z1 k1
  have HR1 : Hid (Dp.Row w1 w.heap.size 5 (List.replicate (l.length + 2) (.int .u8 0))) := r1
  have HVL : Hid ((Dp.vals l).length = l.length) := Dp.vals_length l
  have HCP : Hid (0 < (Dp.vals l).length → ∃ a, ad = some a ∧ ∀ j v, (Dp.vals l)[j]? = some v → w1.cell? (a.add j) = some v) := by
    intro h0
    have hne : l ≠ [] := fun e => by rw [e] at h0; simp [Dp.vals] at h0
    refine ⟨_, HN.out hne, fun j v hj => ?_⟩
    have hadd : (⟨b, o, none⟩ : Addr).add j = ⟨b, o + j, none⟩ := by unfold Addr.add; split <;> simp_all
    have hjl : j < l.length := by have := (List.getElem?_eq_some_iff.1 hj).1; rw [HVL.out] at this; exact this
    rw [hadd, (k1.cell (p := ⟨b, o + j, none⟩) (Dp.cell_lt (HC.out j hjl)) (fun e => e)).trans (HC.out j hjl), ← hj]
    simp [Dp.vals, hjl]
  clear r1
  go_wp2_with (refine Dp.wpList_copy_wide rfl _ _ 47 47 rfl 5 1 Tryz.underlying47 sizeU82 w.heap.size (l.length + 2) (l.length + 2) ad l.length cap rfl rfl 5 (Dp.vals l) (List.replicate (l.length + 2) (.int .u8 0)) HR1.out (by rw [HVL.out, Nat.mul_one]) (by omega) (by rw [HVL.out, List.length_replicate]; omega) (Dp.vals_one l) HCP.out ?_)
  intro w2 r2 z2 k2
  have hr2 : Dp.Row w2 w.heap.size 5 (Dp.vals l ++ [.int .u8 0, .int .u8 0]) := by
    rw [HVL.out] at r2
    have e : (List.replicate (l.length + 2) (Value.int .u8 0)).drop l.length = [.int .u8 0, .int .u8 0] := by
      rw [List.drop_replicate, show l.length + 2 - l.length = 2 by omega]; rfl
    first | (rw [e] at r2; exact r2) | (simpa using r2)
  have c0 : w2.cell? ⟨w.heap.size, l.length, none⟩ = some (.int .u8 0) := by rw [hr2.cell, List.getElem?_append_right (by rw [HVL.out]; omega), HVL.out, Nat.sub_self]; rfl
  have c1 : w2.cell? ⟨w.heap.size, l.length + 1, none⟩ = some (.int .u8 0) := by rw [hr2.cell, List.getElem?_append_right (by rw [HVL.out]; omega), HVL.out, show l.length + 1 - l.length = 1 by omega]; rfl
  have f0 := hr2.frozen l.length
  have f1 := hr2.frozen (l.length + 1)
  have HRF : Hid (Dp.Row ((w2.setCell ⟨w.heap.size, l.length, none⟩ (.int .u8 61)).setCell ⟨w.heap.size, l.length + 1, none⟩ (.int .u8 62)) w.heap.size 5 (Dp.lentCells l)) := by
    have h := (hr2.set l.length (.int .u8 61)).set (l.length + 1) (.int .u8 62)
    have e : ((Dp.vals l ++ [Value.int .u8 0, Value.int .u8 0]).set l.length (.int .u8 61)).set (l.length + 1) (.int .u8 62) = Dp.lentCells l := by
      unfold Dp.lentCells
      rw [List.set_append_right _ _ (by rw [HVL.out]; omega), HVL.out, Nat.sub_self, List.set_append_right _ _ (by rw [HVL.out]; omega), HVL.out, show l.length + 1 - l.length = 1 by omega]
      rfl
    rw [e] at h
    exact h
  have HKF : Hid (Dp.Keeps (fun _ => False) w ((w2.setCell ⟨w.heap.size, l.length, none⟩ (.int .u8 61)).setCell ⟨w.heap.size, l.length + 1, none⟩ (.int .u8 62))) := ((k1.next k2 (fun q hq e => by omega)).setCell (p := ⟨w.heap.size, l.length, none⟩) (.inl (Nat.le_refl _)) _).setCell (p := ⟨w.heap.size, l.length + 1, none⟩) (.inl (Nat.le_refl _)) _
  have HZF : Hid (((w2.setCell ⟨w.heap.size, l.length, none⟩ (.int .u8 61)).setCell ⟨w.heap.size, l.length + 1, none⟩ (.int .u8 62)).heap.size = w.heap.size + 1) := by unfold Hid; simp; omega
  clear hr2 r2 k1 k2 HR1 HCP
  go_wp2
  go_ret
  exact ⟨rfl, HRF.out, HZF.out, HKF.out⟩

set_option maxRecDepth 100000 in
set_option maxHeartbeats 1000000 in
theorem keepStill (w : World) (g : Nat) (v : Value) (l : List UInt8) (hr : Dp.Row w g 5 (Dp.lentCells l)) (hv : Dp.Bytes w v l) (hl : l.length ≤ 16777216) :
    Calls Tryz.prog 43 #[.slice (some ⟨g, 0, none⟩) (l.length + 2) (l.length + 2), v] w fun e w' => e = .returned (.bool true) ∧ Dp.Keeps (fun _ => False) w w' := by
  have hS0 : Dp.Keeps (fun _ => False) w w.drew := (Dp.Keeps.refl _ _).drew
  have hvl := Dp.vals_length l
  have h3 : ∀ wx, Dp.Keeps (fun _ => False) w wx → (convert 47 9 (.slice (some ⟨g, 0, none⟩) l.length (l.length + 2))).run Tryz.prog wx = .ok (.string (Dp.str l)) wx := fun wx kx => by
    refine Dp.run_toStr ⟨g, 0, _, _, rfl, by unfold maxLen; omega, fun _ => rfl, fun j hj => ?_⟩
    have h := hr.keep kx (fun e => e)
    rw [Nat.zero_add, h.cell]
    unfold Dp.lentCells
    rw [List.getElem?_append_left (by omega)]
    simp [Dp.vals, hj]
  have h5 : ∀ wx, Dp.Keeps (fun _ => False) w wx → (convert 47 9 v).run Tryz.prog wx = .ok (.string (Dp.str l)) wx := fun wx kx => Dp.run_toStr (hv.still kx)
  have c0 : ∀ wx, Dp.Keeps (fun _ => False) w wx → wx.cell? ⟨g, l.length, none⟩ = some (.int .u8 61) := fun wx kx => by
    rw [(hr.keep kx (fun e => e)).cell]
    unfold Dp.lentCells
    rw [List.getElem?_append_right (by omega), hvl, Nat.sub_self]; rfl
  have c1 : ∀ wx, Dp.Keeps (fun _ => False) w wx → wx.cell? ⟨g, l.length + 1, none⟩ = some (.int .u8 62) := fun wx kx => by
    rw [(hr.keep kx (fun e => e)).cell]
    unfold Dp.lentCells
    rw [List.getElem?_append_right (by omega), hvl, show l.length + 1 - l.length = 1 by omega]; rfl
  obtain ⟨vb, vo, vad, vcap, ev, _⟩ := hv
  subst ev
  have hw1 : IntKind.i64.wrap ((l.length : Int) + 1) = (l.length : Int) + 1 := IntWalk.i64_in _ (by omega)
  have hb0 : (l.length : Int) < (l.length : Int) + 2 := by omega
  have hb1 : (l.length : Int) + 1 < (l.length : Int) + 2 := by omega
  have hb2 : (l.length : Int) ≤ (l.length : Int) + 2 := by omega
  have hb3 : (0 : Int) ≤ (l.length : Int) + 1 := by omega
  generalize Dp.str l = sl at *
  clear hr hvl
  go_enter Tryz.func43, Tryz.ntmps43
  go_wp2
  refine Dp.wp_region_L (fun wx => Dp.Keeps (fun _ => False) w wx) 22 mixedP ?_
  refine' Dp.wpAnyL_take 0 rfl (by kernel_rfl) (fun _ _ _ h => h) (by rfl) ?hya0 hS0 ?resta0
  case hya0 => intro wx hSx; go_simp; try with_reducible rfl
  simp only [Act.put, List.getElem_toArray, List.getElem_cons_zero, List.setIfInBounds_toArray, List.set_cons_zero, List.set_cons_succ]
  refine' Dp.wpAnyL_take 1 rfl (by kernel_rfl) (fun _ _ _ h => h) (by rfl) ?hya1 hS0 ?resta1
  case hya1 => intro wx hSx; go_simp; try with_reducible rfl
  simp only [Act.put, List.getElem_toArray, List.getElem_cons_zero, List.getElem_cons_succ, List.setIfInBounds_toArray, List.set_cons_zero, List.set_cons_succ]
  refine' Dp.wpAnyL_take 2 rfl (by kernel_rfl) (fun _ _ _ h => h) (by rfl) ?hya2 hS0 ?resta2
  case hya2 => intro wx hSx; go_simp; try with_reducible rfl
  simp only [Act.put, List.getElem_toArray, List.getElem_cons_zero, List.getElem_cons_succ, List.setIfInBounds_toArray, List.set_cons_zero, List.set_cons_succ]
  refine' Dp.wpAnyL_take 3 rfl (by kernel_rfl) (fun _ _ _ h => h) (by rfl) ?hya3 hS0 ?resta3
  case hya3 => intro wx hSx; go_simp; try with_reducible rfl
  simp only [Act.put, List.getElem_toArray, List.getElem_cons_zero, List.getElem_cons_succ, List.setIfInBounds_toArray, List.set_cons_zero, List.set_cons_succ]
  refine' Dp.wpAnyL_take 4 rfl (by kernel_rfl) (fun _ _ _ h => h) (by rfl) ?hya4 hS0 ?resta4
  case hya4 => intro wx hSx; go_simp; try with_reducible rfl
  simp only [Act.put, List.getElem_toArray, List.getElem_cons_zero, List.getElem_cons_succ, List.setIfInBounds_toArray, List.set_cons_zero, List.set_cons_succ]
  refine' Dp.wpAnyL_take 5 rfl (by kernel_rfl) (fun _ _ _ h => h) (by rfl) ?hya5 hS0 ?resta5
  case hya5 => intro wx hSx; go_simp; try with_reducible rfl
  simp only [Act.put, List.getElem_toArray, List.getElem_cons_zero, List.getElem_cons_succ, List.setIfInBounds_toArray, List.set_cons_zero, List.set_cons_succ]
  refine' Dp.wpAnyL_take 6 rfl (by kernel_rfl) (fun _ _ _ h => h) (by rfl) ?hya6 hS0 ?resta6
  case hya6 => intro wx hSx; go_simp; try with_reducible rfl
  simp only [Act.put, List.getElem_toArray, List.getElem_cons_zero, List.getElem_cons_succ, List.setIfInBounds_toArray, List.set_cons_zero, List.set_cons_succ]
  refine' Dp.wpAnyL_take 7 rfl (by kernel_rfl) (fun _ _ _ h => h) (by rfl) ?hya7 hS0 ?resta7
  case hya7 => intro wx hSx; go_simp; try with_reducible rfl
  simp only [Act.put, List.getElem_toArray, List.getElem_cons_zero, List.getElem_cons_succ, List.setIfInBounds_toArray, List.set_cons_zero, List.set_cons_succ]
  refine' Dp.wpAnyL_take 8 rfl (by kernel_rfl) (fun _ _ _ h => h) (by rfl) ?hya8 hS0 ?resta8
  case hya8 => intro wx hSx; go_simp; try with_reducible rfl
  simp only [Act.put, List.getElem_toArray, List.getElem_cons_zero, List.getElem_cons_succ, List.setIfInBounds_toArray, List.set_cons_zero, List.set_cons_succ]
  refine' Dp.wpAnyL_take 9 rfl (by kernel_rfl) (fun _ _ _ h => h) (by rfl) ?hya9 hS0 ?resta9
  case hya9 => intro wx hSx; go_simp; try with_reducible rfl
  simp only [Act.put, List.getElem_toArray, List.getElem_cons_zero, List.getElem_cons_succ, List.setIfInBounds_toArray, List.set_cons_zero, List.set_cons_succ]
  refine' Dp.wpAnyL_take 10 rfl (by kernel_rfl) (fun _ _ _ h => h) (by rfl) ?hya10 hS0 ?resta10
  case hya10 => intro wx hSx; go_simp; try with_reducible rfl
  simp only [Act.put, List.getElem_toArray, List.getElem_cons_zero, List.getElem_cons_succ, List.setIfInBounds_toArray, List.set_cons_zero, List.set_cons_succ]
  refine' Dp.wpAnyL_take 11 rfl (by kernel_rfl) (fun _ _ _ h => h) (by rfl) ?hya11 hS0 ?resta11
  case hya11 => intro wx hSx; go_simp; try with_reducible rfl
  simp only [Act.put, List.getElem_toArray, List.getElem_cons_zero, List.getElem_cons_succ, List.setIfInBounds_toArray, List.set_cons_zero, List.set_cons_succ]
  refine' Dp.wpAnyL_take 12 rfl (by kernel_rfl) (fun _ _ _ h => h) (by rfl) ?hya12 hS0 ?resta12
  case hya12 => intro wx hSx; go_simp; try with_reducible rfl
  simp only [Act.put, List.getElem_toArray, List.getElem_cons_zero, List.getElem_cons_succ, List.setIfInBounds_toArray, List.set_cons_zero, List.set_cons_succ]
  refine' Dp.wpAnyL_take 13 rfl (by kernel_rfl) (fun _ _ _ h => h) (by rfl) ?hya13 hS0 ?resta13
  case hya13 => intro wx hSx; go_simp; try with_reducible rfl
  simp only [Act.put, List.getElem_toArray, List.getElem_cons_zero, List.getElem_cons_succ, List.setIfInBounds_toArray, List.set_cons_zero, List.set_cons_succ]
  refine' Dp.wpAnyL_take 14 rfl (by kernel_rfl) (fun _ _ _ h => h) (by rfl) ?hya14 hS0 ?resta14
  case hya14 => intro wx hSx; go_simp; try with_reducible rfl
  simp only [Act.put, List.getElem_toArray, List.getElem_cons_zero, List.getElem_cons_succ, List.setIfInBounds_toArray, List.set_cons_zero, List.set_cons_succ]
  refine' Dp.wpAnyL_take 15 rfl (by kernel_rfl) (fun _ _ _ h => h) (by rfl) ?hya15 hS0 ?resta15
  case hya15 => intro wx hSx; go_simp; try with_reducible rfl
  simp only [Act.put, List.getElem_toArray, List.getElem_cons_zero, List.getElem_cons_succ, List.setIfInBounds_toArray, List.set_cons_zero, List.set_cons_succ]
  refine' Dp.wpAnyL_take 16 rfl (by kernel_rfl) (fun _ _ _ h => h) (by rfl) ?hya16 hS0 ?resta16
  case hya16 => intro wx hSx; go_simp; try with_reducible rfl
  simp only [Act.put, List.getElem_toArray, List.getElem_cons_zero, List.getElem_cons_succ, List.setIfInBounds_toArray, List.set_cons_zero, List.set_cons_succ]
  refine' Dp.wpAnyL_take 17 rfl (by kernel_rfl) (fun _ _ _ h => h) (by rfl) ?hya17 hS0 ?resta17
  case hya17 => intro wx hSx; go_simp; try with_reducible rfl
  simp only [Act.put, List.getElem_toArray, List.getElem_cons_zero, List.getElem_cons_succ, List.setIfInBounds_toArray, List.set_cons_zero, List.set_cons_succ]
  refine' Dp.wpAnyL_take 18 rfl (by kernel_rfl) (fun _ _ _ h => h) (by rfl) ?hya18 hS0 ?resta18
  case hya18 => intro wx hSx; go_simp; try with_reducible rfl
  simp only [Act.put, List.getElem_toArray, List.getElem_cons_zero, List.getElem_cons_succ, List.setIfInBounds_toArray, List.set_cons_zero, List.set_cons_succ]
  refine' Dp.wpAnyL_take 19 rfl (by kernel_rfl) (fun _ _ _ h => h) (by rfl) ?hya19 hS0 ?resta19
  case hya19 => intro wx hSx; go_simp; try with_reducible rfl
  simp only [Act.put, List.getElem_toArray, List.getElem_cons_zero, List.getElem_cons_succ, List.setIfInBounds_toArray, List.set_cons_zero, List.set_cons_succ]
  refine' Dp.wpAnyL_take 20 rfl (by kernel_rfl) (fun _ _ _ h => h) (by rfl) ?hya20 hS0 ?resta20
  case hya20 => intro wx hSx; go_simp; try with_reducible rfl
  simp only [Act.put, List.getElem_toArray, List.getElem_cons_zero, List.getElem_cons_succ, List.setIfInBounds_toArray, List.set_cons_zero, List.set_cons_succ]
  refine' Dp.wpAnyL_take 21 rfl (by kernel_rfl) (fun _ _ _ h => h) (by rfl) ?hya21 hS0 ?resta21
  case hya21 => intro wx hSx; go_simp; try with_reducible rfl
  simp only [Act.put, List.getElem_toArray, List.getElem_cons_zero, List.getElem_cons_succ, List.setIfInBounds_toArray, List.set_cons_zero, List.set_cons_succ]
  refine Dp.wpAnyL_rest (by kernel_rfl) ?_
  refine Dp.wpAny_tail 22 rfl (by kernel_rfl) ?_
  simp only [List.drop_succ_cons, List.drop_zero]
  go_wp2
  go_ret
  exact ⟨rfl, hS0⟩

set_option maxRecDepth 100000 in
set_option maxHeartbeats 1000000 in
theorem keepShown (w : World) (v u : Value) (A B : List UInt8) (hv : Dp.Bytes w v A) (hu : Dp.Bytes w u B) (hne : A ≠ B) (hs : Dp.sum A = Dp.sum B) :
    Calls Tryz.prog 44 #[v, u] w fun e w' => e = .returned (.bool true) ∧ Dp.Keeps (fun _ => False) w w' := by
  have h1 := Dp.run_toStr hv
  have h2 := Dp.run_toStr hu
  have HV := Hid.mk_ hv
  have HU := Hid.mk_ hu
  obtain ⟨vb, vo, vad, vcap, ev, _⟩ := hv
  obtain ⟨ub, uo, uad, ucap, eu, _⟩ := hu
  subst ev
  subst eu
  have hstr : ((Dp.str A).toList == (Dp.str B).toList) = false := by rw [Dp.str_inj]; simp [hne]
  have HS := Hid.mk_ hs
  generalize Dp.str A = sa at *
  generalize Dp.str B = sb at *
  clear hs hne
  go_enter Tryz.func44, Tryz.ntmps44
  go_wp2_with fail
  have p1 := Dp.bytes_parts HV.out
  refine (progSum1 _ _ _ p1).mono ?_
  rintro e w2 ⟨rfl, ew⟩
  have k2 : Dp.Keeps (fun _ => False) w w2 := by rw [ew]; exact (Dp.Keeps.refl _ _).alloc _
  have HU2 := Hid.mk_ (HU.out.still k2)
  rw [show [A].flatten = A by simp]
  clear p1 ew h1 h2
  go_wp2_with fail
  have p2 := Dp.bytes_parts HU2.out
  refine (progSum1 _ _ _ p2).mono ?_
  rintro e w3 ⟨rfl, ew⟩
  have k3 : Dp.Keeps (fun _ => False) w2 w3 := by rw [ew]; exact (Dp.Keeps.refl _ _).alloc _
  have HK := Hid.mk_ (k2.trans k3)
  rw [show [B].flatten = B by simp, ← HS.out]
  generalize Dp.sum A = SS at *
  clear p2 ew k2 k3
  go_wp2
  go_ret
  exact ⟨rfl, HK.out⟩
end Go.Proofs.YtdipojfngdceoaaGreatDoor

/- append onto a slice of the call's own: where a new row is laid, the old one is as it was. It holds of every program. -/
namespace Go.Proofs.YtdipojfngdceoaaGreatDoor
namespace Dp
open Go.RowKit
/-- append onto a slice of the call's own. -/
theorem run_append_Own2 {P : Program} (w : World) (t ty e : TypeId) (z : Value) (bytes : Nat) (ht : P.underlying t = some (.slice e)) (hinfo : (P.info? e).map (fun i => (i.zero, i.size, i.bytes)) = some (some z, 1, bytes)) (hz1 : z.cells.size = 1)
    (v : Value) (xs : List Value) (hown : Own w e v xs) (a : Addr) (c : Nat) (news : List Value) (hnews : ∀ j u, news[j]? = some u → w.cell? (a.add j) = some u) (h1 : ∀ u ∈ news, u.oneCell' = true) (hpos : 0 < news.length)
    (h63 : xs.length + news.length ≤ maxLen) (hbytes : (xs.length + news.length) * bytes ≤ 140737488355328) :
    ∃ v' w', (Builtin.append_ #[t, t] ty #[v, .slice (some a) news.length c]).run P w = .ok v' w' ∧ Own w' e v' (xs ++ news) ∧ Keeps (fun k => v.ownBlock = some k) w w' ∧
      (v'.ownBlock = v.ownBlock ∧ w'.heap.size = w.heap.size ∨ v'.ownBlock = some w.heap.size ∧ w'.heap.size = w.heap.size + 1 ∧ Keeps (fun _ => False) w w') := by
  obtain ⟨i, hi, hz, hsize, hby⟩ := info_parts hinfo
  subst hby
  have hsmall : xs.length + news.length ≤ 9223372036854775807 := by simp only [maxLen] at h63; omega
  have hl : news.length = news.length * i.size := by rw [hsize, Nat.mul_one]
  have grown : ∀ old : Nat, Own (w.drew.alloc (.cells (xs.toArray ++ news.toArray ++ Builtin.zeroCells z.cells (grownCap w (xs.length + news.length) old e - (xs.length + news.length))) e)) e
        (.slice (some ⟨w.heap.size, 0, none⟩) (xs.length + news.length) (grownCap w (xs.length + news.length) old e)) (xs ++ news) := by
    intro old
    have hge := grownCap_ge w (xs.length + news.length) old e
    have hcm : grownCap w (xs.length + news.length) old e ≤ maxLen := grownCap_le_maxLen w _ old e h63
    refine .inr ⟨w.heap.size, (Builtin.zeroCells z.cells (grownCap w (xs.length + news.length) old e - (xs.length + news.length))).toList, ?_, ?_, ?_⟩
    · rw [zeroCells_length z hz1, List.length_append]; congr 1; omega
    · have := heap_alloc_new w.drew (.cells (xs.toArray ++ news.toArray ++ Builtin.zeroCells z.cells (grownCap w (xs.length + news.length) old e - (xs.length + news.length))) e)
      unfold Row; rw [show w.heap.size = w.drew.heap.size from rfl, this]; simp
    · rw [zeroCells_length z hz1, List.length_append]; omega
  rcases hown with ⟨rfl, rfl⟩ | ⟨g, tail, rfl, hr, hm⟩
  · have hrun := run_append_nil (P := P) w t ty e i z ht hi hz a news.length c news hl hnews hpos (by simp only [List.length_nil, Nat.zero_add] at hsmall; omega) (by simp only [List.length_nil, Nat.zero_add] at hbytes; omega)
    have hgr := grown 0
    simp only [List.length_nil, Nat.zero_add, List.nil_append, Array.empty_append] at hgr ⊢
    exact ⟨_, _, hrun, hgr, (Keeps.refl _ _).drew.alloc _, .inr ⟨rfl, by simp, (Keeps.refl _ _).drew.alloc _⟩⟩
  · by_cases hroom : xs.length + news.length ≤ xs.length + tail.length
    · have hrun := run_append_room (P := P) w t ty e i ht hi g xs.length (xs.length + tail.length) (xs ++ tail).toArray hr a news.length c news hl hnews h1 hroom (by rw [hsize]; simp; omega)
      refine ⟨_, _, hrun, .inr ⟨g, tail.drop news.length, ?_, ?_, ?_⟩, (Keeps.refl (fun k => Value.ownBlock (.slice (some ⟨g, 0, none⟩) xs.length (xs.length + tail.length)) = some k) w).setRow (.inr rfl) _, .inl ⟨rfl, by simp⟩⟩
      · rw [List.length_append, List.length_drop]; congr 1; omega
      · have h := Row.setRow hr (List.take (xs.length * i.size) (xs ++ tail).toArray.toList ++ news ++ List.drop (xs.length * i.size + news.length) (xs ++ tail).toArray.toList)
        have e1 : List.take (xs.length * i.size) (xs ++ tail).toArray.toList ++ news ++ List.drop (xs.length * i.size + news.length) (xs ++ tail).toArray.toList = xs ++ news ++ tail.drop news.length := by
          rw [hsize, Nat.mul_one]; simp
        rw [e1] at h ⊢; exact h
      · rw [List.length_append, List.length_drop]; omega
    · have hrun := run_append_grow (P := P) w t ty e i z ht hi hz ⟨g, 0, none⟩ xs.length (xs.length + tail.length) xs (by rw [hsize, Nat.mul_one]) (by
          intro j u hj
          have e1 := add_zero_off g j
          have hlt : j < xs.length := (List.getElem?_eq_some_iff.1 hj).1
          rw [e1, hr.cell, List.getElem?_append_left hlt]; exact hj) a news.length c news hl hnews (by omega) (by omega) (growslice_fits (by omega) hbytes)
      exact ⟨_, _, hrun, grown _, (Keeps.refl _ _).drew.alloc _, .inr ⟨rfl, by simp, (Keeps.refl _ _).drew.alloc _⟩⟩

theorem wpList_append_Own2 {P : Program} {w : World} {ops : Array Oper} {rest : List Oper} {o : Oper} {a : Act} {Q : Exit → Act → World → Prop} (hgd : o.guard = none) (s x : Operand) (t : TypeId)
    (ho : o.op = .call { callee := .builtin .append, args := #[s, x], argTypes := #[t, t] }) (e : TypeId) (z : Value) (bytes : Nat) (ht : P.underlying t = some (.slice e)) (hinfo : (P.info? e).map (fun i => (i.zero, i.size, i.bytes)) = some (some z, 1, bytes)) (hz1 : z.cells.size = 1)
    (v : Value) (xs : List Value) (hs : a.eval s = v) (hown : Own w e v xs) (ad : Addr) (m c : Nat) (news : List Value) (hx : a.eval x = .slice (some ad) m c) (hl : news.length = m) (hnews : ∀ j u, news[j]? = some u → w.cell? (ad.add j) = some u) (h1 : ∀ u ∈ news, u.oneCell' = true) (hpos : 0 < m)
    (h63 : xs.length + m ≤ maxLen) (hbytes : (xs.length + m) * bytes ≤ 140737488355328)
    (h : ∀ v' w', Own w' e v' (xs ++ news) → Keeps (fun k => v.ownBlock = some k) w w' → Hid (v'.ownBlock = v.ownBlock ∧ w'.heap.size = w.heap.size ∨ v'.ownBlock = some w.heap.size ∧ w'.heap.size = w.heap.size + 1 ∧ Keeps (fun _ => False) w w') → wpList P ops Q rest (a.put o.dst v') w') :
    wpList P ops Q (o :: rest) a w := by
  refine wpList_plain hgd fun K hK => ?_
  subst hl
  obtain ⟨v', w', hr, h2, h3, h4⟩ := run_append_Own2 (P := P) w t o.type e z bytes ht hinfo hz1 v xs hown ad c news hnews h1 hpos h63 hbytes
  unfold Oper.wp execOp
  simp only [ho, resolve, invoke, builtin, Sem.run_bind, Sem.run_pure, Result.andThen_ok, List.map_toArray, List.map_cons, List.map_nil, hs, hx, hr]
  exact hK _ _ (h v' w' h2 h3 h4)

end Dp
end Go.Proofs.YtdipojfngdceoaaGreatDoor
