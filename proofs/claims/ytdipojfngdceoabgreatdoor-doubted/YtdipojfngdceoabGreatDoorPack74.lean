/- Steps on the way: ProgSource, ProgMach, ProgRun, ProgRunM. -/
import Derived.Test.YtdipojfngdceoabGreatDoorPack04
import Derived.Test.YtdipojfngdceoabGreatDoorPack17
import Derived.Test.YtdipojfngdceoabGreatDoorPack69
/- The program's sources: the first one that is called so. -/
namespace Go.Proofs.YtdipojfngdceoabGreatDoor
open Go.RowKit

namespace Dp
def srcErr (x : Option (List UInt8)) : Int := match x with
  | none => 5
  | some _ => 0
theorem cell_new_one (w : World) (v : Value) (e : TypeId) : (w.alloc (.cells #[v] e)).cell? ⟨w.heap.size, 0, none⟩ = some v := by
  have h := Row.allocNew w e [v]
  exact h.cell 0
/-- One part alone. -/
theorem parts_one {w : World} {v : Value} {e : TypeId} {l : List UInt8} (h : Bytes (w.alloc (.cells #[v] e)) v l) : Parts (w.alloc (.cells #[v] e)) (.slice (some ⟨w.heap.size, 0, none⟩) 1 1) [l] := by
  refine ⟨w.heap.size, 0, some ⟨w.heap.size, 0, none⟩, 1, rfl, by simp [maxLen], fun _ => rfl, fun i hi => ?_⟩
  obtain rfl : i = 0 := by simpa using hi
  exact ⟨v, cell_new_one w v e, h⟩
/-- The slice value v holds just these bytes, in a block of G. -/
def BytesIn (G : Nat → Prop) (w : World) (v : Value) (l : List UInt8) : Prop :=
  ∃ b o ad cap, v = .slice ad l.length cap ∧ l.length ≤ maxLen ∧ (l ≠ [] → G b ∧ ad = some ⟨b, o, none⟩) ∧ ∀ j (h : j < l.length), w.cell? ⟨b, o + j, none⟩ = some (.int .u8 (l[j].toNat : Int))
theorem BytesIn.bytes {G : Nat → Prop} {w : World} {v : Value} {l : List UInt8} (h : BytesIn G w v l) : Bytes w v l := by
  obtain ⟨b, o, ad, cap, h1, h2, h3, h4⟩ := h
  exact ⟨b, o, ad, cap, h1, h2, fun e => (h3 e).2, h4⟩
theorem BytesIn.keep {G S : Nat → Prop} {w w' : World} {v : Value} {l : List UInt8} (h : BytesIn G w v l) (k : Keeps S w w') (hG : ∀ q, G q → q < w.heap.size ∧ ¬ S q) : BytesIn G w' v l := by
  obtain ⟨b, o, ad, cap, h1, h2, h3, h4⟩ := h
  refine ⟨b, o, ad, cap, h1, h2, h3, fun j hj => ?_⟩
  have hb := hG b (h3 (by intro e; simp [e] at hj)).1
  exact (k.cell (p := ⟨b, o + j, none⟩) hb.1 hb.2).trans (h4 j hj)
theorem findSrc_some (srcs : List (List UInt8)) (name : Int) (k : Nat) (hk : k < srcs.length) (hno : ∀ j (h : j < srcs.length), j < k → sum srcs[j] ≠ name) (h : sum srcs[k] = name) : findSrc srcs name = some srcs[k] := by
  unfold findSrc
  rw [List.find?_eq_some_iff_getElem]
  exact ⟨by simpa using h, k, hk, rfl, fun j hj => by simpa using hno j (by omega) hj⟩
theorem findSrc_none (srcs : List (List UInt8)) (name : Int) (hno : ∀ j (h : j < srcs.length), sum srcs[j] ≠ name) : findSrc srcs name = none := by
  unfold findSrc
  rw [List.find?_eq_none]
  intro l hl
  obtain ⟨j, hj, rfl⟩ := List.getElem_of_mem hl
  simpa using hno j hj
end Dp

set_option maxRecDepth 100000 in
set_option maxHeartbeats 1000000 in
theorem progSourceIn (G : Nat → Prop) (w : World) (b o : Nat) (vs : Value) (srcs : List (List UInt8)) (name : Int) (hc : w.cell? ⟨b, o, none⟩ = some vs) (hP : Dp.PartsIn G w vs srcs) (hG : ∀ q, G q → q < w.heap.size) :
    Calls Tryz.prog 158 #[.pointer (some ⟨b, o, none⟩), .int .u32 name] w fun e w' => (∃ v, e = .returned (.tuple #[v, .int .i64 (Dp.srcErr (Dp.findSrc srcs name))]) ∧ Dp.BytesIn G w' v ((Dp.findSrc srcs name).getD [])) ∧ Dp.Keeps (fun _ => False) w w' := by
  obtain ⟨b2, o2, ad, cap, rfl, hlen, hne, hcells⟩ := hP
  unfold maxLen at hlen
  have HC := Hid.mk_ hcells
  have HN := Hid.mk_ hne
  clear hcells hne
  go_enter Tryz.func158, Tryz.ntmps158
  go_wp2
  go_loopw [7, 13] (fun _ i wr => ∃ k : Nat, k ≤ srcs.length ∧ i = .int .i64 k ∧ (∀ j (h : j < srcs.length), j < k → Dp.sum srcs[j] ≠ name) ∧ Dp.Keeps (fun _ => False) w wr) (fun _ i _ => srcs.length - (intOf i).toNat)
  case atStart => exact ⟨0, Nat.zero_le _, rfl, fun j _ hj => absurd hj (by omega), Dp.Keeps.refl _ _⟩
  case round =>
    obtain ⟨k, hk, rfl, hno, kr⟩ := hrel
    have HNO := Hid.mk_ hno
    clear hno
    by_cases hlt : k < srcs.length
    · obtain ⟨hgb, rfl⟩ := HN.out (by intro e; simp [e] at hlt)
      obtain ⟨b3, o3, ad3, cap3, hc1, hl3, hn3, hc3⟩ := HC.out k hlt
      have hb2 := hG b2 hgb
      have ck : wr.cell? ⟨b2, o2 + k, none⟩ = some (.slice ad3 srcs[k].length cap3) := (kr.cell (p := ⟨b2, o2 + k, none⟩) hb2 (fun e => e)).trans hc1
      have HB : Hid (∀ wx, Dp.Keeps (fun _ => False) wr wx → Dp.BytesIn G wx (.slice ad3 srcs[k].length cap3) srcs[k]) := by
        intro wx kx
        refine ⟨b3, o3, ad3, cap3, rfl, hl3, hn3, fun j hj => ?_⟩
        have hb3 := hG b3 (hn3 (by intro e; simp [e] at hj)).1
        exact ((kr.trans kx).cell (p := ⟨b3, o3 + j, none⟩) hb3 (fun e => e)).trans (hc3 j hj)
      clear hc1 hl3 hn3 hc3
      have hsb := Dp.sum_bd srcs[k]
      go_wp2_with fail
      refine (digSum _ [srcs[k]] _ (Dp.parts_one (HB.out _ ((Dp.Keeps.refl _ _).alloc _)).bytes)).mono ?_
      rintro e w4 ⟨rfl, rfl⟩
      rw [List.flatten_singleton]
      have KR := Hid.mk_ (kr.alloc (.cells #[.slice ad3 srcs[k].length cap3] 35))
      have HB4 := Hid.mk_ (HB.out _ ((Dp.Keeps.refl _ _).alloc (.cells #[.slice ad3 srcs[k].length cap3] 35)))
      by_cases hs : Dp.sum srcs[k] = name
      · have HF := Hid.mk_ (Dp.findSrc_some srcs name k hlt HNO.out hs)
        rw [hs]
        clear ck HB
        go_wp2
        go_ret2
        rw [HF.out]
        exact ⟨⟨_, rfl, HB4.out⟩, KR.out⟩
      · have HF : Hid (∀ j (h : j < srcs.length), j < k + 1 → Dp.sum srcs[j] ≠ name) := by
          intro j hj hjk
          by_cases e : j = k
          · subst e; exact hs
          · exact HNO.out j hj (by omega)
        generalize Dp.sum srcs[k] = sk at *
        clear ck HB
        go_wp2
        go_roundw
        case rel => exact ⟨k + 1, by omega, by go_num, HF.out, KR.out⟩
        case measure => simp [intOf]; omega
    · have HF := Hid.mk_ (Dp.findSrc_none srcs name (fun j hj => HNO.out j hj (by omega)))
      go_wp2
      go_ret2
      rw [HF.out]
      exact ⟨⟨_, rfl, 0, 0, none, 0, rfl, by simp [maxLen], fun e => absurd rfl e, fun j hj => absurd hj (by simp)⟩, kr⟩

theorem progSource (G : Nat → Prop) (w : World) (b o : Nat) (vs : Value) (srcs : List (List UInt8)) (name : Int) (hc : w.cell? ⟨b, o, none⟩ = some vs) (hP : Dp.PartsIn G w vs srcs) (hG : ∀ q, G q → q < w.heap.size) :
    Calls Tryz.prog 158 #[.pointer (some ⟨b, o, none⟩), .int .u32 name] w fun e w' => (∃ v, e = .returned (.tuple #[v, .int .i64 (Dp.srcErr (Dp.findSrc srcs name))]) ∧ Dp.Bytes w' v ((Dp.findSrc srcs name).getD [])) ∧ Dp.Keeps (fun _ => False) w w' := by
  refine (progSourceIn G w b o vs srcs name hc hP hG).mono ?_
  rintro e w' ⟨⟨v, h1, h2⟩, h3⟩
  exact ⟨⟨v, h1, h2.bytes⟩, h3⟩
end Go.Proofs.YtdipojfngdceoabGreatDoor

/- The program's machine in memory; its own cells as the memory of a core. -/
namespace Go.Proofs.YtdipojfngdceoabGreatDoor
open Go.RowKit

namespace Dp
def stateCells (s : Cs) : List Value := [.int .u32 s.pc, .int .u32 s.steps, .int .u32 s.code, .bool s.over] ++ wordCells s.regs
theorem stateCells_length (s : Cs) (h : s.regs.length = 8) : (stateCells s).length = 12 := by simp [stateCells, wordCells, h]
theorem coreCells_state (s : Cs) (mem : Value) : coreCells s mem = stateCells s ++ [mem] := rfl
/-- The program's machine m lies at block b; its sources, the value vs, in blocks of G. -/
structure ProgM (w : World) (b : Nat) (G : Nat → Prop) (vs : Value) (m : Mach) : Prop where
  ok : m.Ok
  row : Row w b 86 (stateCells m.s ++ memCells vs m.cells)
  src : PartsIn G w vs m.srcs
  own : ∀ q, G q → q < w.heap.size ∧ q ≠ b
theorem ProgM.keep {S : Nat → Prop} {w w' : World} {b : Nat} {G : Nat → Prop} {vs : Value} {m : Mach} (h : ProgM w b G vs m) (k : Keeps S w w') (hb : ¬ S b) (hG : ∀ q, G q → ¬ S q) : ProgM w' b G vs m :=
  ⟨h.ok, h.row.keep k hb, h.src.keep k (fun q hq => ⟨(h.own q hq).1, hG q hq⟩), fun q hq => ⟨Nat.lt_of_lt_of_le (h.own q hq).1 k.size, (h.own q hq).2⟩⟩

theorem Mach.Ok.step {m : Mach} (h : m.Ok) : m.step.1.Ok := by
  unfold Mach.step
  split
  · exact h
  split
  · exact h
  simp only
  split
  · split
    · exact h
    · split
      · exact ⟨moved_ok h.s _ _ _ (by simp [isWord]), by simp [h.len], fun x hx => (List.mem_or_eq_of_mem_set hx).elim (h.cells x) (fun e => e ▸ h.s.reg _), h.srcs, h.src⟩
      · exact ⟨moved_ok h.s _ _ _ (h.cell _), h.len, h.cells, h.srcs, h.src⟩
  · split
    · split
      · exact h
      · exact ⟨moved_ok h.s _ _ _ (told_bd _ _), h.len, h.cells, h.srcs, h.src⟩
    · exact ⟨plain_ok h.s _, h.len, h.cells, h.srcs, h.src⟩
theorem Mach.step_srcs (m : Mach) : m.step.1.srcs = m.srcs := by
  unfold Mach.step
  split
  · rfl
  split
  · rfl
  simp only
  split
  · split
    · rfl
    · split <;> rfl
  · split
    · split <;> rfl
    · rfl

/-- What stays while a core runs over a machine's own cells. -/
def CellsInv (w0 : World) (b : Nat) (G : Nat → Prop) (s0 : Cs) (vs : Value) (w : World) (m : List Int × List (List UInt8)) : Prop :=
  Row w b 86 (stateCells s0 ++ memCells vs m.1) ∧ PartsIn G w vs m.2 ∧ Keeps (fun k => k = b) w0 w ∧ m.1.length = 256 ∧ ∀ x ∈ m.1, isWord x
end Dp

theorem callCLoad (b o : Nat) (n : Value) (wx : World) : (callMethod (.iface 105 (.pointer (some ⟨b, o, none⟩))) "Load" #[n]).run Tryz.prog wx = .ok (.enter 83 #[.pointer (some ⟨b, o, none⟩), n]) wx := by kernel_rfl
theorem callCStore (b o : Nat) (n v : Value) (wx : World) : (callMethod (.iface 105 (.pointer (some ⟨b, o, none⟩))) "Store" #[n, v]).run Tryz.prog wx = .ok (.enter 159 #[.pointer (some ⟨b, o, none⟩), n, v]) wx := by kernel_rfl
theorem callCSource (b o : Nat) (n : Value) (wx : World) : (callMethod (.iface 105 (.pointer (some ⟨b, o, none⟩))) "Source" #[n]).run Tryz.prog wx = .ok (.enter 158 #[.pointer (some ⟨b, o, none⟩), n]) wx := by kernel_rfl

namespace Dp
theorem cellsOk (w0 : World) (b p : Nat) (G : Nat → Prop) (s0 : Cs) (vs : Value) (hl : s0.regs.length = 8) (hb : b < w0.heap.size) (hp : w0.heap.size ≤ p) (hG : ∀ q, G q → q < w0.heap.size ∧ q ≠ b) :
    MemOk Tryz.prog p 105 (.pointer (some ⟨b, 12, none⟩)) cellsMemo (fun _ k => k = b) (CellsInv w0 b G s0 vs) (CellsInv w0 b G s0 vs) (fun _ => False) [] where
  keep := by
    intro w w' m h k
    obtain ⟨h1, h2, h3, h4⟩ := h
    refine ⟨⟨h1.keep k (by omega), h2.keep k (fun q hq => ?_), h3.next k (fun i hi e => by omega), h4⟩, fun _ e => e⟩
    have := hG q hq
    have := h3.size
    omega
  keep' := by
    intro w w' m h k
    obtain ⟨h1, h2, h3, h4⟩ := h
    refine ⟨h1.keep k (by omega), h2.keep k (fun q hq => ?_), h3.next k (fun i hi e => by omega), h4⟩
    have := hG q hq
    have := h3.size
    omega
  le := fun h => h
  foot := by
    intro w m k h e
    have := h.1.lt
    subst e
    exact ⟨this, by omega⟩
  word := by
    intro w m n r h hn hr
    simp only [cellsMemo, Option.some.injEq] at hr
    subst hr
    simp only
    split
    · simp [isWord]
    · have hlen := h.2.2.2.1
      rw [List.getD_eq_getElem?_getD]
      cases e : m.1[n.toNat]? with
      | none => simp [isWord]
      | some x => exact h.2.2.2.2 x (List.mem_of_getElem? e)
  load := by
    intro w m n hn h
    refine ⟨83, _, callCLoad b 12 _, ?_⟩
    have hrow : Row w b 86 (stateCells s0 ++ memCells vs m.1 ++ []) := by rw [List.append_nil]; exact h.1
    refine (progCellsLoad w b 12 _ _ _ vs m.1 n h.2.2.2.1 hrow (stateCells_length s0 hl) hn h.2.2.2.2).mono ?_
    rintro e w' ⟨rfl, rfl⟩
    have hword : isWord (if n ≥ 256 then 0 else m.1.getD n.toNat 0) := by
      split
      · simp [isWord]
      · rw [List.getD_eq_getElem?_getD]
        cases e : m.1[n.toNat]? with
        | none => simp [isWord]
        | some x => exact h.2.2.2.2 x (List.mem_of_getElem? e)
    show _ ∧ _
    by_cases hz : n ≥ 256
    · simp only [hz, if_true] at hword ⊢
      exact ⟨trivial, hword, by omega, h, Keeps.refl _ _⟩
    · simp only [hz, if_false] at hword ⊢
      exact ⟨trivial, hword, by omega, h, Keeps.refl _ _⟩
  store := by
    intro w m n v hn hv h
    refine ⟨159, _, callCStore b 12 _ _, ?_⟩
    have hrow : Row w b 86 (stateCells s0 ++ memCells vs m.1 ++ []) := by rw [List.append_nil]; exact h.1
    refine (progCellsStore w b 12 _ _ _ vs m.1 n v h.2.2.2.1 hrow (stateCells_length s0 hl) hn).mono ?_
    rintro e w' ⟨rfl, hr, hk⟩
    rw [List.append_nil] at hr
    have hsrc : PartsIn G w' vs m.2 := h.2.1.keep hk (fun q hq => ⟨Nat.lt_of_lt_of_le (hG q hq).1 h.2.2.1.size, (hG q hq).2⟩)
    have hkk := h.2.2.1.trans hk
    show _ ∧ _
    by_cases hz : n ≥ 256
    · simp only [hz, if_true] at hr ⊢
      exact ⟨trivial, by omega, ⟨hr, hsrc, hkk, h.2.2.2⟩, hk⟩
    · simp only [hz, if_false] at hr ⊢
      exact ⟨trivial, by omega, ⟨hr, hsrc, hkk, by simp [h.2.2.2.1], fun x hx => (List.mem_or_eq_of_mem_set hx).elim (h.2.2.2.2 x) (fun e => e ▸ hv)⟩, hk⟩
  source := by
    intro w m n hn h
    refine ⟨158, _, callCSource b 12 _, ?_⟩
    have hrow : Row w b 86 (stateCells s0 ++ memCells vs m.1 ++ []) := by rw [List.append_nil]; exact h.1
    refine (progSource G w b 12 vs m.2 n (memCells_srcs hrow (stateCells_length s0 hl)) h.2.1 (fun q hq => Nat.lt_of_lt_of_le (hG q hq).1 h.2.2.1.size)).mono ?_
    rintro e w' ⟨⟨v, rfl, hv⟩, hk⟩
    have hi : CellsInv w0 b G s0 vs w' m := ⟨h.1.keep hk (fun e => e), h.2.1.keep hk (fun q hq => ⟨Nat.lt_of_lt_of_le (hG q hq).1 h.2.2.1.size, fun e => e⟩), h.2.2.1.next hk (fun _ _ e => e.elim), h.2.2.2⟩
    show _ ∧ _
    cases hf : findSrc m.2 n with
    | none =>
      rw [hf] at hv
      simp only [srcErr]
      exact ⟨⟨v, rfl, hv⟩, by omega, hi, hk.mono (fun _ _ e => e.elim)⟩
    | some l =>
      rw [hf] at hv
      simp only [srcErr]
      exact ⟨⟨v, rfl, hv⟩, by omega, hi, hk.mono (fun _ _ e => e.elim)⟩
end Dp

end Go.Proofs.YtdipojfngdceoabGreatDoor

/- The program's core runs over a machine's own cells. -/
namespace Go.Proofs.YtdipojfngdceoabGreatDoor
open Go.RowKit

namespace Dp
theorem Mach.Ok.after {m : Mach} (h : m.Ok) : ∀ k, (Mach.after m k).Ok
  | 0 => h
  | k + 1 => (Mach.Ok.after h k).step
theorem Mach.after_srcs (m : Mach) : ∀ k, (Mach.after m k).srcs = m.srcs
  | 0 => rfl
  | k + 1 => (Mach.step_srcs _).trans (Mach.after_srcs m k)
end Dp

theorem progStepCells (w0 : World) (b p : Nat) (G : Nat → Prop) (s0 : Dp.Cs) (vs : Value) (hl : s0.regs.length = 8) (hb : b < w0.heap.size) (hp : w0.heap.size ≤ p) (hG : ∀ q, G q → q < w0.heap.size ∧ q ≠ b) (m : Dp.Mach) (hok : m.Ok) (w : World)
    (hr : Dp.Row w p 109 (Dp.coreCells m.s (.iface 105 (.pointer (some ⟨b, 12, none⟩))))) (hI : Dp.CellsInv w0 b G s0 vs w (m.cells, m.srcs)) :
    Calls Tryz.prog 68 #[.pointer (some ⟨p, 0, none⟩)] w fun e w' => e = .returned (.int .i64 m.step.2) ∧ Dp.Row w' p 109 (Dp.coreCells m.step.1.s (.iface 105 (.pointer (some ⟨b, 12, none⟩)))) ∧ Dp.CellsInv w0 b G s0 vs w' (m.step.1.cells, m.step.1.srcs) := by
  refine (progStep Dp.cellsMemo (fun _ k => k = b) (Dp.CellsInv w0 b G s0 vs) (Dp.CellsInv w0 b G s0 vs) (Dp.CellsInv w0 b G s0 vs) (fun _ => False) [] 105 (.pointer (some ⟨b, 12, none⟩)) m.s p w (m.cells, m.srcs) hok.s (Dp.cellsOk w0 b p G s0 vs hl hb hp hG) (Dp.cellsOk w0 b p G s0 vs hl hb hp hG) hr hI).mono ?_
  intro e w' h
  rw [Dp.coreStep_cells m] at h
  exact h

set_option maxRecDepth 100000 in
set_option maxHeartbeats 1000000 in
theorem progCoreRun (w0 : World) (b p : Nat) (G : Nat → Prop) (s0 : Dp.Cs) (vs : Value) (hl : s0.regs.length = 8) (hb : b < w0.heap.size) (hp : w0.heap.size ≤ p) (hG : ∀ q, G q → q < w0.heap.size ∧ q ≠ b) (m : Dp.Mach) (hok : m.Ok) (w : World)
    (hr : Dp.Row w p 109 (Dp.coreCells m.s (.iface 105 (.pointer (some ⟨b, 12, none⟩))))) (hI : Dp.CellsInv w0 b G s0 vs w (m.cells, m.srcs)) (n : Nat) (hn : n ≤ 100000) :
    Calls Tryz.prog 44 #[.pointer (some ⟨p, 0, none⟩), .int .i64 n] w fun e w' => e = .returned (.tuple #[.int .i64 ((Dp.Mach.run n m).2.1 : Int), .int .i64 (Dp.Mach.run n m).2.2]) ∧ Dp.Row w' p 109 (Dp.coreCells (Dp.Mach.run n m).1.s (.iface 105 (.pointer (some ⟨b, 12, none⟩)))) ∧ Dp.CellsInv w0 b G s0 vs w' ((Dp.Mach.run n m).1.cells, (Dp.Mach.run n m).1.srcs) := by
  go_enter Tryz.func44, Tryz.ntmps44
  go_wp2
  go_loopw [6, 7, 9] (fun _ _ i wr => ∃ k : Nat, k ≤ n ∧ i = .int .i64 k ∧ (∀ j, j < k → ((Dp.Mach.after m j).s.over = false ∧ (Dp.Mach.after m j).step.2 = 0)) ∧ Dp.Row wr p 109 (Dp.coreCells (Dp.Mach.after m k).s (.iface 105 (.pointer (some ⟨b, 12, none⟩)))) ∧ Dp.CellsInv w0 b G s0 vs wr ((Dp.Mach.after m k).cells, (Dp.Mach.after m k).srcs)) (fun _ _ i _ => n - (intOf i).toNat)
  case atStart => exact ⟨0, Nat.zero_le _, rfl, fun j hj => absurd hj (by omega), hr, hI⟩
  case round =>
    obtain ⟨k, hk, rfl, hno, hrk, hIk⟩ := hrel
    have HR := Hid.mk_ (Dp.Mach.run_reach _ k m hno rfl)
    have HNO := Hid.mk_ hno
    have hokk := hok.after k
    clear hno
    by_cases hlt : k < n
    · obtain ⟨_, _, _, c3⟩ := hrk.core
      have hnk := HR.out (n - k)
      rw [show k + (n - k) = n by omega, show n - k = (n - k - 1) + 1 by omega] at hnk
      have HN := Hid.mk_ hnk
      clear hnk
      cases hov : (Dp.Mach.after m k).s.over with
      | true =>
        rw [hov] at c3
        have hrun : Dp.Mach.run (n - k - 1 + 1) (Dp.Mach.after m k) = (Dp.Mach.after m k, 0, 0) := by unfold Dp.Mach.run; rw [if_pos hov]
        have HX : Hid (Dp.Mach.run n m = (Dp.Mach.after m k, 0 + k, 0)) := by unfold Hid; rw [HN.out, hrun]
        go_wp2
        go_ret2
        rw [HX.out]
        exact ⟨by simp, hrk, hIk⟩
      | false =>
        rw [hov] at c3
        go_wp2_with fail
        refine (progStepCells w0 b p G s0 vs hl hb hp hG (Dp.Mach.after m k) hokk wr hrk hIk).mono ?_
        rintro e w2 ⟨rfl, hr2, hI2⟩
        by_cases hz : (Dp.Mach.after m k).step.2 = 0
        · rw [hz]
          have HNO2 : Hid (∀ j, j < k + 1 → ((Dp.Mach.after m j).s.over = false ∧ (Dp.Mach.after m j).step.2 = 0)) := by
            intro j hj
            by_cases e : j = k
            · subst e; exact ⟨hov, hz⟩
            · exact HNO.out j (by omega)
          clear c3
          go_wp2
          go_roundw
          case rel => exact ⟨k + 1, by omega, by go_num, HNO2.out, hr2, hI2⟩
          case measure => simp [intOf]; omega
        · have hs := Dp.step_same _ hz
          have hrun : Dp.Mach.run (n - k - 1 + 1) (Dp.Mach.after m k) = (Dp.Mach.after m k, 0, (Dp.Mach.after m k).step.2) := by unfold Dp.Mach.run; rw [if_neg (by rw [hov]; decide), if_pos hz]
          have HX : Hid (Dp.Mach.run n m = (Dp.Mach.after m k, 0 + k, (Dp.Mach.after m k).step.2)) := by unfold Hid; rw [HN.out, hrun]
          rw [hs] at hr2 hI2
          generalize (Dp.Mach.after m k).step.2 = er at *
          clear c3
          go_wp2
          go_ret2
          rw [HX.out]
          exact ⟨by simp, hr2, hI2⟩
    · obtain rfl : k = n := by omega
      have hrun := HR.out 0
      have HX : Hid (Dp.Mach.run k m = (Dp.Mach.after m k, 0 + k, 0)) := by
        unfold Hid
        rw [show k + 0 = k by omega] at hrun
        rw [hrun]; rfl
      go_wp2
      go_ret2
      rw [HX.out]
      exact ⟨by simp, hrk, hIk⟩

end Go.Proofs.YtdipojfngdceoabGreatDoor

/- The program's machine: it runs. -/
namespace Go.Proofs.YtdipojfngdceoabGreatDoor
open Go.RowKit

namespace Dp
theorem list8 {l : List Int} (h : l.length = 8) : ∃ r0 r1 r2 r3 r4 r5 r6 r7, l = [r0, r1, r2, r3, r4, r5, r6, r7] := by
  match l, h with
  | [r0, r1, r2, r3, r4, r5, r6, r7], _ => exact ⟨r0, r1, r2, r3, r4, r5, r6, r7, rfl⟩
theorem Mach.Ok.run : ∀ (n : Nat) {m : Mach}, m.Ok → (Mach.run n m).1.Ok
  | 0, _, h => h
  | n + 1, m, h => by
    unfold Mach.run
    split
    · exact h
    · split
      · exact h
      · exact Mach.Ok.run n h.step
theorem stateCells_one (s : Cs) : ∀ v ∈ stateCells s, v.oneCell' = true := by
  intro v hv
  simp only [stateCells, wordCells, List.mem_append, List.mem_cons, List.not_mem_nil, or_false, List.mem_map] at hv
  rcases hv with (rfl | rfl | rfl | rfl) | ⟨x, _, rfl⟩ <;> rfl
end Dp
theorem zeroCore : (Tryz.prog.info? 109).map (fun i => i.zero) = some (some (.agg (Dp.coreCells ⟨0, 0, 0, false, [0, 0, 0, 0, 0, 0, 0, 0]⟩ .nilIface).toArray)) := by kernel_rfl
theorem sizeCore : (Tryz.prog.info? 109).map (·.size) = some 13 := by kernel_rfl
theorem sizePState : (Tryz.prog.info? 79).map (·.size) = some 12 := by kernel_rfl

set_option maxRecDepth 100000 in
set_option maxHeartbeats 1000000 in
theorem progRunM (w : World) (b : Nat) (G : Nat → Prop) (vs : Value) (m : Dp.Mach) (h : Dp.ProgM w b G vs m) (n : Nat) (hn : n ≤ 100000) :
    Calls Tryz.prog 28 #[.pointer (some ⟨b, 0, none⟩), .int .i64 n] w fun e w' => e = .returned (.tuple #[.int .i64 ((Dp.Mach.run n m).2.1 : Int), .int .i64 (Dp.Mach.run n m).2.2]) ∧ Dp.Keeps (fun k => k = b) w w' ∧ Dp.ProgM w' b G vs (Dp.Mach.run n m).1 := by
  have H := Hid.mk_ h
  have hrow := h.row
  have hlen := h.ok.s.len
  clear h
  obtain ⟨⟨pc, st, co, ov, regs⟩, cells, srcs⟩ := m
  obtain ⟨r0, r1, r2, r3, r4, r5, r6, r7, rfl⟩ := Dp.list8 hlen
  have q0 : ∀ wx, Dp.Keeps (fun _ => False) w wx → wx.cell? ⟨b, 0, none⟩ = some (.int .u32 pc) := fun wx kx => by rw [(hrow.keep kx (fun e => e)).cell]; rfl
  have q1 : ∀ wx, Dp.Keeps (fun _ => False) w wx → wx.cell? ⟨b, 1, none⟩ = some (.int .u32 st) := fun wx kx => by rw [(hrow.keep kx (fun e => e)).cell]; rfl
  have q2 : ∀ wx, Dp.Keeps (fun _ => False) w wx → wx.cell? ⟨b, 2, none⟩ = some (.int .u32 co) := fun wx kx => by rw [(hrow.keep kx (fun e => e)).cell]; rfl
  have q3 : ∀ wx, Dp.Keeps (fun _ => False) w wx → wx.cell? ⟨b, 3, none⟩ = some (.bool ov) := fun wx kx => by rw [(hrow.keep kx (fun e => e)).cell]; rfl
  have q4 : ∀ wx, Dp.Keeps (fun _ => False) w wx → wx.cell? ⟨b, 4, none⟩ = some (.int .u32 r0) := fun wx kx => by rw [(hrow.keep kx (fun e => e)).cell]; rfl
  have q5 : ∀ wx, Dp.Keeps (fun _ => False) w wx → wx.cell? ⟨b, 5, none⟩ = some (.int .u32 r1) := fun wx kx => by rw [(hrow.keep kx (fun e => e)).cell]; rfl
  have q6 : ∀ wx, Dp.Keeps (fun _ => False) w wx → wx.cell? ⟨b, 6, none⟩ = some (.int .u32 r2) := fun wx kx => by rw [(hrow.keep kx (fun e => e)).cell]; rfl
  have q7 : ∀ wx, Dp.Keeps (fun _ => False) w wx → wx.cell? ⟨b, 7, none⟩ = some (.int .u32 r3) := fun wx kx => by rw [(hrow.keep kx (fun e => e)).cell]; rfl
  have q8 : ∀ wx, Dp.Keeps (fun _ => False) w wx → wx.cell? ⟨b, 8, none⟩ = some (.int .u32 r4) := fun wx kx => by rw [(hrow.keep kx (fun e => e)).cell]; rfl
  have q9 : ∀ wx, Dp.Keeps (fun _ => False) w wx → wx.cell? ⟨b, 9, none⟩ = some (.int .u32 r5) := fun wx kx => by rw [(hrow.keep kx (fun e => e)).cell]; rfl
  have q10 : ∀ wx, Dp.Keeps (fun _ => False) w wx → wx.cell? ⟨b, 10, none⟩ = some (.int .u32 r6) := fun wx kx => by rw [(hrow.keep kx (fun e => e)).cell]; rfl
  have q11 : ∀ wx, Dp.Keeps (fun _ => False) w wx → wx.cell? ⟨b, 11, none⟩ = some (.int .u32 r7) := fun wx kx => by rw [(hrow.keep kx (fun e => e)).cell]; rfl
  have hS0 : Dp.Keeps (fun _ => False) w w.drew := (Dp.Keeps.refl _ _).drew
  go_enter Tryz.func28, Tryz.ntmps28
  go_wp2
  refine Dp.wp_region_L (fun wx => Dp.Keeps (fun _ => False) w wx) 10 mixedP ?_
  refine' Dp.wpAnyL_take 0 rfl (by kernel_rfl) (fun _ _ _ h => h) (by rfl) ?hy0 hS0 ?rest0
  case hy0 => intro wx hSx; go_simp; try with_reducible rfl
  simp only [Act.put, List.getElem_toArray, List.getElem_cons_zero, List.setIfInBounds_toArray, List.set_cons_zero, List.set_cons_succ]
  refine' Dp.wpAnyL_take 1 rfl (by kernel_rfl) (fun _ _ _ h => h) (by rfl) ?hy1 hS0 ?rest1
  case hy1 => intro wx hSx; go_simp; try with_reducible rfl
  simp only [Act.put, List.getElem_toArray, List.getElem_cons_zero, List.getElem_cons_succ, List.setIfInBounds_toArray, List.set_cons_zero, List.set_cons_succ]
  refine' Dp.wpAnyL_take 2 rfl (by kernel_rfl) (fun _ _ _ h => h) (by rfl) ?hy2 hS0 ?rest2
  case hy2 => intro wx hSx; go_simp; try with_reducible rfl
  simp only [Act.put, List.getElem_toArray, List.getElem_cons_zero, List.getElem_cons_succ, List.setIfInBounds_toArray, List.set_cons_zero, List.set_cons_succ]
  refine' Dp.wpAnyL_take 3 rfl (by kernel_rfl) (fun _ _ _ h => h) (by rfl) ?hy3 hS0 ?rest3
  case hy3 => intro wx hSx; go_simp; try with_reducible rfl
  simp only [Act.put, List.getElem_toArray, List.getElem_cons_zero, List.getElem_cons_succ, List.setIfInBounds_toArray, List.set_cons_zero, List.set_cons_succ]
  refine' Dp.wpAnyL_take 4 rfl (by kernel_rfl) (fun _ _ _ h => h) (by rfl) ?hy4 hS0 ?rest4
  case hy4 => intro wx hSx; go_simp; try with_reducible rfl
  simp only [Act.put, List.getElem_toArray, List.getElem_cons_zero, List.getElem_cons_succ, List.setIfInBounds_toArray, List.set_cons_zero, List.set_cons_succ]
  refine' Dp.wpAnyL_take 5 rfl (by kernel_rfl) (fun _ _ _ h => h) (by rfl) ?hy5 hS0 ?rest5
  case hy5 => intro wx hSx; go_simp; try with_reducible rfl
  simp only [Act.put, List.getElem_toArray, List.getElem_cons_zero, List.getElem_cons_succ, List.setIfInBounds_toArray, List.set_cons_zero, List.set_cons_succ]
  refine' Dp.wpAnyL_take 6 rfl (by kernel_rfl) (fun _ _ _ h => h) (by rfl) ?hy6 hS0 ?rest6
  case hy6 => intro wx hSx; go_simp; try with_reducible rfl
  simp only [Act.put, List.getElem_toArray, List.getElem_cons_zero, List.getElem_cons_succ, List.setIfInBounds_toArray, List.set_cons_zero, List.set_cons_succ]
  refine' Dp.wpAnyL_take 7 rfl (by kernel_rfl) (fun _ _ _ h => h) (by rfl) ?hy7 hS0 ?rest7
  case hy7 => intro wx hSx; go_simp; try with_reducible rfl
  simp only [Act.put, List.getElem_toArray, List.getElem_cons_zero, List.getElem_cons_succ, List.setIfInBounds_toArray, List.set_cons_zero, List.set_cons_succ]
  refine' Dp.wpAnyL_take 8 rfl (by kernel_rfl) (fun _ _ _ h => h) (by rfl) ?hy8 hS0 ?rest8
  case hy8 => intro wx hSx; go_simp; try with_reducible rfl
  simp only [Act.put, List.getElem_toArray, List.getElem_cons_zero, List.getElem_cons_succ, List.setIfInBounds_toArray, List.set_cons_zero, List.set_cons_succ]
  refine Dp.wpAnyL_one 9 rfl (by kernel_rfl) (by rfl) (fun K hK => ?_)
  refine Dp.wp_alloc_row 109 rfl _ zeroCore ?_
  intro w1 c1 z1 k1
  have hw1 := hS0.trans k1
  refine hK _ _ ⟨fun _ => hw1, ?_⟩
  clear hK K q0 q1 q2 q3 q4 q5 q6 q7 q8 q9 q10 q11 hS0
  simp only [Act.put, List.getElem_toArray, List.getElem_cons_zero, List.getElem_cons_succ, List.setIfInBounds_toArray, List.set_cons_zero, List.set_cons_succ]
  refine Dp.wpAnyL_rest (by kernel_rfl) ?_
  refine Dp.wpAny_tail 10 rfl (by kernel_rfl) ?_
  simp only [List.drop_succ_cons, List.drop_zero]
  have HT := Hid.mk_ (Dp.row_nil c1)
  refine Dp.wpList_store_in rfl 109 _ _ rfl w.heap.size 0 rfl (Dp.coreCells ⟨pc, st, co, ov, [r0, r1, r2, r3, r4, r5, r6, r7]⟩ (.iface 105 (.pointer (some ⟨b, 12, none⟩)))) rfl 109 [] _ [] HT.out rfl rfl sizeCore (by intro v hv; simp [Dp.coreCells, Dp.wordCells] at hv; rcases hv with rfl | rfl | rfl | rfl | rfl | rfl | rfl | rfl | rfl | rfl | rfl | rfl | rfl <;> rfl) ?_
  intro w2 c2 z2 k2
  have c2' : Dp.Row w2 w.heap.size 109 (Dp.coreCells ⟨pc, st, co, ov, [r0, r1, r2, r3, r4, r5, r6, r7]⟩ (.iface 105 (.pointer (some ⟨b, 12, none⟩)))) := by simpa using c2
  have hb := hrow.lt
  have hKb : Dp.Keeps (fun k => k = b) w w2 := (hw1.mono (fun _ _ e => e.elim)).next k2 (fun k hk e => by omega)
  have hGw : ∀ q, G q → q < w.heap.size ∧ q ≠ b := H.out.own
  have hI2 : Dp.CellsInv w b G ⟨pc, st, co, ov, [r0, r1, r2, r3, r4, r5, r6, r7]⟩ vs w2 (cells, srcs) := by
    refine ⟨(hrow.keep hw1 (fun e => e)).keep k2 (by omega), (H.out.src.keep hw1 (fun q hq => ⟨(hGw q hq).1, fun e => e⟩)).keep k2 (fun q hq => ?_), hKb, H.out.ok.len, H.out.ok.cells⟩
    have := hGw q hq
    have := hw1.size
    omega
  clear c1 c2 HT k1 k2 hw1 z1 z2
  have hokm := Hid.mk_ H.out.ok
  generalize hm : (⟨⟨pc, st, co, ov, [r0, r1, r2, r3, r4, r5, r6, r7]⟩, cells, srcs⟩ : Dp.Mach) = m at *
  have hms : (⟨pc, st, co, ov, [r0, r1, r2, r3, r4, r5, r6, r7]⟩ : Dp.Cs) = m.s := by rw [← hm]
  have hmc : cells = m.cells := by rw [← hm]
  have hmr : srcs = m.srcs := by rw [← hm]
  have HM := Hid.mk_ hm
  clear hm
  rw [hms] at c2'
  rw [hms, hmc, hmr] at hI2
  go_wp2_with fail
  refine (progCoreRun w b w.heap.size G m.s vs (by rw [← hms]; rfl) hb (Nat.le_refl _) hGw m hokm.out w2 c2' hI2 n hn).mono ?_
  rintro e w3 ⟨rfl, c3, hI3⟩
  have hok3 := Hid.mk_ (hokm.out.run n)
  generalize hR : Dp.Mach.run n m = R at *
  have HRR := Hid.mk_ hR
  clear hR
  obtain ⟨h31, h32, h33, h34⟩ := hI3
  have HL3 : Hid ((Dp.stateCells R.1.s).length = 12) := Dp.stateCells_length _ hok3.out.s.len
  have HL0 : Hid ((Dp.stateCells m.s).length = 12) := Dp.stateCells_length _ hokm.out.s.len
  have HC3 : Hid (Dp.Row w3 w.heap.size 109 ([] ++ Dp.stateCells R.1.s ++ [.iface 105 (.pointer (some ⟨b, 12, none⟩))])) := c3
  have HB3 : Hid (Dp.Row w3 b 86 ([] ++ Dp.stateCells m.s ++ Dp.memCells vs R.1.cells)) := h31
  clear c2' hI2 c3 h31
  go_wp2_with (refine Dp.wpList_load_in rfl 79 _ rfl w.heap.size 0 rfl 109 [] _ _ HC3.out rfl _ Tryz.underlying79 rfl (by rw [sizePState, HL3.out]) ?_)
  intro _
  go_wp2_with (refine Dp.wpList_store_in rfl 79 _ _ rfl b 0 rfl (Dp.stateCells R.1.s) rfl 86 [] _ _ HB3.out rfl (by rw [HL3.out, HL0.out]) (by rw [sizePState, HL3.out]) (Dp.stateCells_one _) ?_)
  intro w4 c4 z4 k4
  go_wp2
  go_ret2
  have hk4 := h33.trans k4
  rw [HM.out, HRR.out]
  exact ⟨rfl, hk4, ⟨hok3.out, c4, h32.keep k4 (fun q hq => ⟨Nat.lt_of_lt_of_le (hGw q hq).1 h33.size, (hGw q hq).2⟩), fun q hq => ⟨Nat.lt_of_lt_of_le (hGw q hq).1 hk4.size, (hGw q hq).2⟩⟩⟩

end Go.Proofs.YtdipojfngdceoabGreatDoor
