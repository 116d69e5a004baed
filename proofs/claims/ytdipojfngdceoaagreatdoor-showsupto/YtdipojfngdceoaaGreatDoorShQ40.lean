/- Steps on the way: ProgRecord4, ProgRecord5, ProgRecord6. -/
import Derived.Test.YtdipojfngdceoaaGreatDoorShQ35
import Derived.Test.YtdipojfngdceoaaGreatDoorShQ37
namespace Go.Proofs.YtdipojfngdceoaaGreatDoor
open Go.RowKit
set_option maxRecDepth 100000 in
set_option maxHeartbeats 1000000 in
theorem progRLoad (G : Nat → Prop) (wb : World) (p q L : Nat) (w : World) (m : List Int × List (List UInt8) × List UInt8) (n : Int) (hn : Dp.isWord n) (h : Dp.RecInv G wb p q L w m) (hL : L ≤ 1000000) :
  Calls Tryz.prog 172 #[.pointer (some ⟨q, 0, none⟩), .int .u32 n] w fun e w' => Dp.after (Dp.recordMemo.load m n) (e = .panicked [] ∧ False) fun r => e = .returned (.tuple #[.int .u32 r.2.1, .int .i64 r.2.2]) ∧ Dp.isWord r.2.1 ∧ (0 ≤ r.2.2 ∧ r.2.2 < 8) ∧ Dp.RecInv G wb p q (L + 300) w' r.1 ∧ Dp.Keeps (Dp.RecF q w) w w' := by
 have HW : Hid (Dp.isWord (if n ≥ 256 then 0 else m.1.getD n.toNat 0)) := by
  unfold Hid
  split
  ·simp [Dp.isWord]
  ·rw [List.getD_eq_getElem?_getD]
   cases e : m.1[n.toNat]? with
   | none => simp [Dp.isWord]
   | some x => exact h.words x (List.mem_of_getElem? e)
 have HE : Hid (Dp.recordMemo.load m n = some ((m.1, m.2.1, if n ≥ 256 then m.2.2 else m.2.2 ++ Dp.proof m.1 n.toNat), (if n ≥ 256 then 0 else m.1.getD n.toNat 0), (if n ≥ 256 then 3 else 0))) := by
  unfold Hid Dp.recordMemo
  by_cases hge : n ≥ 256
  ·simp [hge]
  ·simp [hge]
 have HER : Hid (0 ≤ (if n ≥ 256 then (3 : Int) else 0) ∧ (if n ≥ 256 then (3 : Int) else 0) < 8) := by unfold Hid; split <;> omega
 generalize hX : (if n ≥ 256 then m.2.2 else m.2.2 ++ Dp.proof m.1 n.toNat) = X at *
 have HPV := Hid.mk_ (progProve G wb p q L w m n hn h hL)
 rw [hX] at HPV
 have HCL : Hid (∀ wx, Dp.RecInv G wb p q (L + 300) wx (m.1, m.2.1, X) → Calls Tryz.prog 91 #[.pointer (some ⟨q, 0, none⟩), .int .u32 n] wx fun e w' => e = .returned (.tuple #[.int .u32 (if n ≥ 256 then 0 else m.1.getD n.toNat 0), .int .i64 (if n ≥ 256 then 3 else 0)]) ∧ w' = wx) := by
  intro wx hx
  obtain ⟨vs, vsh, hr, _⟩ := hx.row
  exact progCellsLoad wx q 0 157 [] [vsh] vs m.1 n hx.len hr rfl hn hx.words
 generalize (if n ≥ 256 then 0 else m.1.getD n.toNat 0) = V at *
 generalize (if n ≥ 256 then (3 : Int) else 0) = E at *
 clear hX
 go_enter Tryz.func172, Tryz.ntmps172
 go_wp2_with fail
 refine HPV.out.mono ?_
 rintro e w1 ⟨rfl, h1, k1⟩
 go_wp2_with fail
 refine (HCL.out _ h1).mono ?_
 rintro e w2 ⟨rfl, hww⟩
 subst w2
 go_wp2
 go_ret2
 rw [HE.out, Dp.after_some]
 exact ⟨rfl, HW.out, HER.out, h1, k1⟩
set_option maxRecDepth 100000 in
set_option maxHeartbeats 1000000 in
theorem progRStore (G : Nat → Prop) (wb : World) (p q L : Nat) (w : World) (m : List Int × List (List UInt8) × List UInt8) (n v : Int) (hn : Dp.isWord n) (hv : Dp.isWord v) (h : Dp.RecInv G wb p q L w m) (hL : L ≤ 1000000) :
  Calls Tryz.prog 174 #[.pointer (some ⟨q, 0, none⟩), .int .u32 n, .int .u32 v] w fun e w' => Dp.after (Dp.recordMemo.store m n v) (e = .panicked [] ∧ False) fun r => e = .returned (.int .i64 r.2) ∧ (0 ≤ r.2 ∧ r.2 < 8) ∧ Dp.RecInv G wb p q (L + 300) w' r.1 ∧ Dp.Keeps (Dp.RecF q w) w w' := by
 have HE : Hid (Dp.recordMemo.store m n v = some (((if n ≥ 256 then m.1 else m.1.set n.toNat v), m.2.1, if n ≥ 256 then m.2.2 else m.2.2 ++ Dp.proof m.1 n.toNat), (if n ≥ 256 then 3 else 0))) := by
  unfold Hid Dp.recordMemo
  by_cases hge : n ≥ 256
  ·simp [hge]
  ·simp [hge]
 have HER : Hid (0 ≤ (if n ≥ 256 then (3 : Int) else 0) ∧ (if n ≥ 256 then (3 : Int) else 0) < 8) := by unfold Hid; split <;> omega
 have HLW : Hid ((if n ≥ 256 then m.1 else m.1.set n.toNat v).length = 256 ∧ ∀ x ∈ (if n ≥ 256 then m.1 else m.1.set n.toNat v), Dp.isWord x) := by
  unfold Hid
  split
  ·exact ⟨h.len, h.words⟩
  ·exact ⟨by rw [List.length_set]; exact h.len, fun x hx => (List.mem_or_eq_of_mem_set hx).elim (h.words x) (fun e => e ▸ hv)⟩
 generalize hX : (if n ≥ 256 then m.2.2 else m.2.2 ++ Dp.proof m.1 n.toNat) = X at *
 have HPV := Hid.mk_ (progProve G wb p q L w m n hn h hL)
 rw [hX] at HPV
 have HCL : Hid (∀ wx, Dp.RecInv G wb p q (L + 300) wx (m.1, m.2.1, X) → Calls Tryz.prog 171 #[.pointer (some ⟨q, 0, none⟩), .int .u32 n, .int .u32 v] wx fun e w' => e = .returned (.int .i64 (if n ≥ 256 then 3 else 0)) ∧ Dp.RecInv G wb p q (L + 300) w' ((if n ≥ 256 then m.1 else m.1.set n.toNat v), m.2.1, X) ∧ Dp.Keeps (fun k => k = q) wx w') := by
  intro wx hx
  obtain ⟨vs, vsh, hr, hpi, ho, hnew⟩ := hx.row
  refine (progCellsStore wx q 0 157 [] [vsh] vs m.1 n v hx.len hr rfl hn).mono ?_
  rintro e w' ⟨rfl, hr', k'⟩
  have hqw := hx.qlt
  have hsz := hx.frame.size
  refine ⟨rfl, ⟨HLW.out.1, HLW.out.2, hx.short, hx.srcl, hx.ne, hx.plt, hx.qlt, hx.far, hx.frame.next k' (fun i _ e => .inl e), vs, vsh, hr', hpi.keep k' (fun g hg => ?_), ho.keep k' (fun g hg e => ?_), hnew⟩, k'⟩
  ·have := hx.far g hg
   exact ⟨by omega, this.2.1⟩
  ·have := hnew g hg; omega
 generalize (if n ≥ 256 then m.1 else m.1.set n.toNat v) = V at *
 generalize (if n ≥ 256 then (3 : Int) else 0) = E at *
 clear hX
 go_enter Tryz.func174, Tryz.ntmps174
 go_wp2_with fail
 refine HPV.out.mono ?_
 rintro e w1 ⟨rfl, h1, k1⟩
 go_wp2_with fail
 refine (HCL.out _ h1).mono ?_
 rintro e w2 ⟨rfl, h2, k2⟩
 go_wp2
 go_ret
 rw [HE.out, Dp.after_some]
 exact ⟨rfl, HER.out, h2, k1.next k2 (fun _ _ e => .inl e)⟩
namespace Dp
theorem findSrc_mem {srcs : List (List UInt8)} {name : Int} {l : List UInt8} (h : findSrc srcs name = some l) : l ∈ srcs := by
 unfold findSrc at h
 exact List.mem_of_find?_eq_some h
theorem vals_byteOf (n : Nat) (h : n ≤ 255) : vals [byteOf (n : Int)] = [.int .u8 (n : Int)] := by
 have := byteOf_num (n : Int) (by omega)
 simp [vals, this]
structure Sh (G : Nat → Prop) (wb : World) (p q : Nat) (vs : Value) (cells : List Int) (srcs : List (List UInt8)) (w : World) (v : Value) (X : List UInt8) : Prop where
 row : Row w q 157 (memCells vs cells ++ [v])
 parts : PartsIn G w vs srcs
 own : Own w 5 v (vals X)
 new : ∀ g, v.ownBlock = some g → wb.heap.size ≤ g
 frame : Keeps (fun k => k = q ∨ k = p) wb w
theorem Sh.cell {G : Nat → Prop} {wb : World} {p q : Nat} {vs : Value} {cells : List Int} {srcs : List (List UInt8)} {w : World} {v : Value} {X : List UInt8} (h : Sh G wb p q vs cells srcs w v X) (hl : cells.length = 256) : w.cell? ⟨q, 257, none⟩ = some v := by
 have hle : (memCells vs cells).length = 257 := by simp [memCells, wordCells, hl]
 rw [h.row.cell, List.getElem?_append_right (by omega), hle]; rfl
theorem Sh.still {G : Nat → Prop} {wb : World} {p q : Nat} {vs : Value} {cells : List Int} {srcs : List (List UInt8)} {w w' : World} {v : Value} {X : List UInt8} (h : Sh G wb p q vs cells srcs w v X) (far : ∀ g, G g → g < wb.heap.size ∧ g ≠ q ∧ g ≠ p) (k : Keeps (fun _ => False) w w') : Sh G wb p q vs cells srcs w' v X :=
 ⟨h.row.keep k (fun e => e), h.parts.keep k (fun g hg => ⟨by have := far g hg; have := h.frame.size; omega, fun e => e⟩), h.own.keep k (fun _ _ e => e), h.new, h.frame.next k (fun _ _ e => e.elim)⟩
theorem Sh.put {G : Nat → Prop} {wb : World} {p q : Nat} {vs : Value} {cells : List Int} {srcs : List (List UInt8)} {w w' : World} {v v' : Value} {X X' : List UInt8} (h : Sh G wb p q vs cells srcs w v X) (hl : cells.length = 256) (far : ∀ g, G g → g < wb.heap.size ∧ g ≠ q ∧ g ≠ p)
  (k : Keeps (fun i => v.ownBlock = some i) w w') (o : Own w' 5 v' (vals X')) (s : Hid (v'.ownBlock = v.ownBlock ∧ w'.heap.size = w.heap.size ∨ v'.ownBlock = some w.heap.size ∧ w'.heap.size = w.heap.size + 1)) :
  Sh G wb p q vs cells srcs (w'.setCell ⟨q, 257, none⟩ v') v' X' ∧ Keeps (fun i => i = q ∨ v.ownBlock = some i) w (w'.setCell ⟨q, 257, none⟩ v') := by
 have hle : (memCells vs cells).length = 257 := by simp [memCells, wordCells, hl]
 have hqv : ∀ g, v.ownBlock = some g → ¬ g = q := h.own.ne h.row (by decide)
 have hr4 := h.row.keep k (fun e => hqv q e rfl)
 have hqn : ∀ g, v'.ownBlock = some g → ¬ g = q := o.ne hr4 (by decide)
 have kset : Keeps (fun i => i = q) w' (w'.setCell ⟨q, 257, none⟩ v') := Keeps.setCell (S := fun i => i = q) (p := ⟨q, 257, none⟩) (Keeps.refl _ _) (.inr rfl) _
 have HK : Keeps (fun i => i = q ∨ v.ownBlock = some i) w (w'.setCell ⟨q, 257, none⟩ v') := (k.mono (fun _ _ e => .inr e)).next kset (fun _ _ e => .inl e)
 refine ⟨⟨?_, h.parts.keep HK (fun g hg => ?_), o.keep kset hqn, fun g hg => ?_, h.frame.next HK (fun i hi e => ?_)⟩, HK⟩
 ·have h5 := hr4.set 257 v'
  rw [List.set_append_right _ _ (by omega), hle] at h5
  exact h5
 ·have h1 := far g hg
  have h2 := h.frame.size
  refine ⟨by omega, fun e => ?_⟩
  rcases e with e | e
  ·exact h1.2.1 e
  ·have := h.new g e; omega
 ·rcases s.out with hh | hh
  ·exact h.new g (hh.1 ▸ hg)
  ·rw [hh.1] at hg
   have e : w.heap.size = g := by simpa using hg
   have := h.frame.size
   omega
 ·rcases e with e | e
  ·exact .inl e
  ·have := h.new i e; omega
end Dp
set_option maxRecDepth 100000 in
set_option maxHeartbeats 1000000 in
theorem progRSource (G : Nat → Prop) (wb : World) (p q L : Nat) (w : World) (m : List Int × List (List UInt8) × List UInt8) (n : Int) (h : Dp.RecInv G wb p q L w m) (hL : L ≤ 1000000) :
  Calls Tryz.prog 173 #[.pointer (some ⟨q, 0, none⟩), .int .u32 n] w fun e w' => Dp.after (Dp.recordMemo.source m n) (e = .panicked [] ∧ False) fun r => (∃ v, e = .returned (.tuple #[v, .int .i64 r.2.2]) ∧ Dp.Bytes w' v r.2.1) ∧ (0 ≤ r.2.2 ∧ r.2.2 < 8) ∧ Dp.RecInv G wb p q (L + 300) w' r.1 ∧ Dp.Keeps (Dp.RecF q w) w w' := by
 obtain ⟨vs, vsh, hr, hpi, hown, hnew⟩ := h.row
 have hsz := h.frame.size
 have hGw : ∀ g, G g → g < w.heap.size := fun g hg => by have := h.far g hg; omega
 have hc0 : w.cell? ⟨q, 0, none⟩ = some vs := hr.cell 0
 have HS := Hid.mk_ (progSourceIn G w q 0 vs m.2.1 n hc0 hpi hGw)
 cases hf : Dp.findSrc m.2.1 n with
 | none =>
  have HE : Hid (Dp.recordMemo.source m n = some (m, [], 5)) := by unfold Hid Dp.recordMemo; simp [hf]
  rw [hf] at HS
  simp only [Dp.srcErr, Option.getD_none] at HS
  have HK : Hid (∀ w', Dp.Keeps (fun _ => False) w w' → Dp.RecInv G wb p q (L + 300) w' m) := by
   intro w' k
   exact (h.keep (k.mono (fun _ _ e => e.elim))).1.le (by omega)
  clear hc0 hf
  go_enter Tryz.func173, Tryz.ntmps173
  go_wp2_with fail
  refine HS.out.mono ?_
  rintro e w1 ⟨⟨v, rfl, hb⟩, k1⟩
  have HB := Hid.mk_ hb.bytes
  obtain ⟨b, o, ad, cap, rfl, _⟩ := hb
  go_wp2
  go_ret2
  rw [HE.out, Dp.after_some]
  exact ⟨⟨_, rfl, HB.out⟩, (show (0 : Int) ≤ 5 ∧ (5 : Int) < 8 by omega), HK.out _ k1, k1.mono (fun _ _ e => e.elim)⟩
 | some l =>
  have hl255 : l.length ≤ 255 := h.srcl l (Dp.findSrc_mem hf)
  have HE : Hid (Dp.recordMemo.source m n = some ((m.1, m.2.1, m.2.2 ++ Dp.byteOf l.length :: l), l, 0)) := by unfold Hid Dp.recordMemo; simp [hf]
  rw [hf] at HS
  simp only [Dp.srcErr, Option.getD_some] at HS
  obtain ⟨shad, shcap, esh⟩ := hown.isSlice
  subst esh
  have HSH : Hid (Dp.Sh G wb p q vs m.1 m.2.1 w (.slice shad (Dp.vals m.2.2).length shcap) m.2.2) := ⟨hr, hpi, hown, hnew, h.frame⟩
  have HSL := Hid.mk_ h.short
  have HBO := Hid.mk_ (Dp.vals_byteOf l.length hl255)
  have HHR := Hid.mk_ hr
  clear hc0 hf hpi hown hnew hr
  have HVL := Hid.mk_ (Dp.vals_length m.2.2)
  generalize (Dp.vals m.2.2).length = NN at *
  go_enter Tryz.func173, Tryz.ntmps173
  go_wp2_with fail
  refine HS.out.mono ?_
  rintro e w1 ⟨⟨v, rfl, hb⟩, k1⟩
  have HB := Hid.mk_ hb
  obtain ⟨b, o, ad, cap, rfl, _⟩ := hb
  have HS1 := Hid.mk_ (HSH.out.still h.far k1)
  have HKA : Hid (Dp.Keeps (fun _ => False) w1 (w1.alloc (.cells #[.int .u8 (l.length : Int)] 5))) := (Dp.Keeps.refl _ _).alloc _
  have HS2 := Hid.mk_ (HS1.out.still h.far HKA.out)
  have HNW : Hid (∀ j u, ([.int .u8 (l.length : Int)] : List Value)[j]? = some u → (w1.alloc (.cells #[.int .u8 (l.length : Int)] 5)).cell? ((⟨w1.heap.size, 0, none⟩ : Addr).add j) = some u) := cell_one_new _ _ _
  have c1 := HS1.out.cell h.len
  go_wp2_with (at_builtin; refine Dp.wpList_append_Own rfl _ _ 47 rfl 5 (.int .u8 0) 1 Tryz.underlying47 infoU8 rfl (.slice shad NN shcap) (Dp.vals m.2.2) rfl HS2.out.own ⟨w1.heap.size, 0, none⟩ 1 1 [.int .u8 (l.length : Int)] rfl rfl HNW.out (fun u hu => by simp at hu; subst hu; rfl) (by omega) (by have := HSL.out; rw [Dp.vals_length]; unfold maxLen; omega) (by have := HSL.out; rw [Dp.vals_length]; omega) ?_)
  intro v3 w3 o3 k3 s3
  rw [← HBO.out, Dp.vals_append] at o3
  have s3' : Hid (v3.ownBlock = (Value.slice shad NN shcap).ownBlock ∧ w3.heap.size = (w1.alloc (.cells #[.int .u8 (l.length : Int)] 5)).heap.size ∨ v3.ownBlock = some (w1.alloc (.cells #[.int .u8 (l.length : Int)] 5)).heap.size ∧ w3.heap.size = (w1.alloc (.cells #[.int .u8 (l.length : Int)] 5)).heap.size + 1) := by
   have := s3.out; unfold Hid; simpa using this
  obtain ⟨HS4', HK4'⟩ := HS2.out.put h.len h.far k3 o3 s3'
  have c3 : w3.cell? ⟨q, 257, none⟩ = some (.slice shad NN shcap) := by
   have hq2 := HS2.out.own.ne HS2.out.row (by decide)
   rw [(HS2.out.row.keep k3 (fun e => hq2 q e rfl)).cell, ← HS2.out.row.cell]; exact HS2.out.cell h.len
  have f3 := (HS2.out.row.keep k3 (fun e => HS2.out.own.ne HS2.out.row (by decide) q e rfl)).frozen 257
  obtain ⟨ad3, cap3, e3⟩ := o3.isSlice
  subst e3
  generalize (Dp.vals (m.2.2 ++ [Dp.byteOf l.length])).length = N3 at *
  have HS4 := Hid.mk_ HS4'
  have HK4 := Hid.mk_ HK4'
  have HGF : Hid (∀ g, G g → ∀ wx : World, wb.heap.size ≤ wx.heap.size → g < wx.heap.size) := fun g hg wx hx => by have := h.far g hg; omega
  have HB4 : Hid (Dp.BytesIn G (w3.setCell ⟨q, 257, none⟩ (.slice ad3 N3 cap3)) (.slice ad l.length cap) l) := by
   refine (HB.out.keep HKA.out (fun g hg => ⟨HGF.out g hg _ HS1.out.frame.size, fun e => e⟩)).keep HK4' (fun g hg => ⟨HGF.out g hg _ HS2.out.frame.size, fun e => ?_⟩)
   have h1 := h.far g hg
   rcases e with e | e
   ·exact h1.2.1 e
   ·have := HS2.out.new g e; omega
  have HK04 : Hid (Dp.Keeps (fun i => i = q ∨ (Value.slice shad NN shcap).ownBlock = some i) w (w3.setCell ⟨q, 257, none⟩ (.slice ad3 N3 cap3))) :=
   ((k1.trans HKA.out).mono (fun _ _ e => e.elim)).trans HK4'
  have c4 := HS4'.cell h.len
  have HFR : Hid (∀ i, i < w.heap.size → (Value.slice ad3 N3 cap3).ownBlock = some i → Dp.RecF q w i) := by
   intro i hi e
   rcases s3'.out with hh | hh
   ·exact .inr ⟨_, _, HHR.out, hh.1 ▸ e⟩
   ·rw [hh.1] at e
    have e' : (w1.alloc (.cells #[.int .u8 (l.length : Int)] 5)).heap.size = i := by simpa using e
    have h1 := (k1.trans HKA.out).size
    omega
  clear HS4' HK4' o3 k3 s3 s3' c1 HNW HK4 HB HKA
  have HLN : Hid ((Dp.vals (m.2.2 ++ [Dp.byteOf l.length])).length ≤ L + 1) := by have := HSL.out; unfold Hid; rw [Dp.vals_length, List.length_append]; simp; omega
  go_wp2_with (at_builtin; refine Dp.wpList_append_bytes rfl _ _ 47 78 rfl 5 5 (.int .u8 0) 1 Tryz.underlying47 Tryz.underlying78 infoU8 rfl (.slice ad3 N3 cap3) (Dp.vals (m.2.2 ++ [Dp.byteOf l.length])) rfl HS4.out.own (.slice ad l.length cap) l rfl HB4.out.bytes (by have := HLN.out; unfold maxLen; omega) (by have := HLN.out; omega) ?_)
  intro v5 w5 o5 k5 s5
  rw [Dp.vals_append, List.append_assoc] at o5
  have s5' : Hid (v5.ownBlock = (Value.slice ad3 N3 cap3).ownBlock ∧ w5.heap.size = (w3.setCell ⟨q, 257, none⟩ (.slice ad3 N3 cap3)).heap.size ∨ v5.ownBlock = some (w3.setCell ⟨q, 257, none⟩ (.slice ad3 N3 cap3)).heap.size ∧ w5.heap.size = (w3.setCell ⟨q, 257, none⟩ (.slice ad3 N3 cap3)).heap.size + 1) := by
   have := s5.out; unfold Hid; simpa using this
  obtain ⟨HS6', HK6'⟩ := HS4.out.put h.len h.far k5 o5 s5'
  have hq4 : ∀ g, (Value.slice ad3 N3 cap3).ownBlock = some g → ¬ g = q := HS4.out.own.ne HS4.out.row (by decide)
  have hr5 := HS4.out.row.keep k5 (fun e => hq4 q e rfl)
  have c5 : w5.cell? ⟨q, 257, none⟩ = some (.slice ad3 N3 cap3) := by
   rw [hr5.cell, ← HS4.out.row.cell]; exact HS4.out.cell h.len
  have f5 := hr5.frozen 257
  obtain ⟨ad5, cap5, e5⟩ := o5.isSlice
  subst e5
  generalize (Dp.vals (m.2.2 ++ ([Dp.byteOf l.length] ++ l))).length = N5 at *
  have HS6 := Hid.mk_ HS6'
  have HB6 : Hid (Dp.BytesIn G (w5.setCell ⟨q, 257, none⟩ (.slice ad5 N5 cap5)) (.slice ad l.length cap) l) := by
   refine HB4.out.keep HK6' (fun g hg => ⟨HGF.out g hg _ HS4.out.frame.size, fun e => ?_⟩)
   have h1 := h.far g hg
   rcases e with e | e
   ·exact h1.2.1 e
   ·have := HS4.out.new g e; omega
  have HKF : Hid (Dp.Keeps (Dp.RecF q w) w (w5.setCell ⟨q, 257, none⟩ (.slice ad5 N5 cap5))) := by
   refine (HK04.out.mono (fun i _ e => ?_)).next HK6' (fun i hi e => ?_)
   ·rcases e with e | e
    ·exact .inl e
    ·exact .inr ⟨_, _, HHR.out, e⟩
   ·rcases e with e | e
    ·exact .inl e
    ·exact HFR.out i hi e
  clear HS6' HK6' o5 k5 s5 s5' hq4 hr5 c4 c3 f3
  go_wp2
  go_ret2
  rw [HE.out, Dp.after_some]
  refine ⟨⟨_, rfl, HB6.out.bytes⟩, (show (0 : Int) ≤ 0 ∧ (0 : Int) < 8 by omega), ⟨h.len, h.words, ?_, h.srcl, h.ne, h.plt, h.qlt, h.far, HS6.out.frame, vs, _, HS6.out.row, HS6.out.parts, HS6.out.own, HS6.out.new⟩, HKF.out⟩
  have := HSL.out
  simp only [List.length_append, List.length_cons]
  omega
theorem callRLoad (q : Nat) (n : Value) (wx : World) : (callMethod (.iface 158 (.pointer (some ⟨q, 0, none⟩))) "Load" #[n]).run Tryz.prog wx = .ok (.enter 172 #[.pointer (some ⟨q, 0, none⟩), n]) wx := by kernel_rfl
theorem callRStore (q : Nat) (n v : Value) (wx : World) : (callMethod (.iface 158 (.pointer (some ⟨q, 0, none⟩))) "Store" #[n, v]).run Tryz.prog wx = .ok (.enter 174 #[.pointer (some ⟨q, 0, none⟩), n, v]) wx := by kernel_rfl
theorem callRSource (q : Nat) (n : Value) (wx : World) : (callMethod (.iface 158 (.pointer (some ⟨q, 0, none⟩))) "Source" #[n]).run Tryz.prog wx = .ok (.enter 173 #[.pointer (some ⟨q, 0, none⟩), n]) wx := by kernel_rfl
namespace Dp
theorem recordOk (G : Nat → Prop) (wb : World) (p q L : Nat) (hL : L ≤ 1000000) :
  MemOk Tryz.prog p 158 (.pointer (some ⟨q, 0, none⟩)) recordMemo (RecF q) (RecInv G wb p q L) (RecInv G wb p q (L + 300)) (fun _ => False) [] where
 keep := fun h k => h.keep k
 keep' := fun h k => (h.keep k).1
 le := fun h => h.le (by omega)
 foot := fun h hi => h.foot hi
 word := by
  intro w m n r h hn hr
  simp only [recordMemo, Option.some.injEq] at hr
  subst hr
  split
  ·simp [isWord]
  ·simp only
   rw [List.getD_eq_getElem?_getD]
   cases e : m.1[n.toNat]? with
   | none => simp [isWord]
   | some x => exact h.words x (List.mem_of_getElem? e)
 load := fun w m n hn h => ⟨172, _, callRLoad q _, progRLoad G wb p q L w m n hn h hL⟩
 store := fun w m n v hn hv h => ⟨174, _, callRStore q _ _, progRStore G wb p q L w m n v hn hv h hL⟩
 source := fun w m n _ h => ⟨173, _, callRSource q _, progRSource G wb p q L w m n h hL⟩
end Dp
end Go.Proofs.YtdipojfngdceoaaGreatDoor
