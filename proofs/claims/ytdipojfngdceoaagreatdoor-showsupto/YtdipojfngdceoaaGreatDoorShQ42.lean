/- Steps on the way: LawBent, LawSides, LawStep6, LawStep8. -/
import Derived.Test.YtdipojfngdceoaaGreatDoorShQ01
import Derived.Test.YtdipojfngdceoaaGreatDoorShQ02
import Derived.Test.YtdipojfngdceoaaGreatDoorShQ09
import Derived.Test.YtdipojfngdceoaaGreatDoorShQ20
import Derived.Test.YtdipojfngdceoaaGreatDoorShQ23
import Derived.Test.YtdipojfngdceoaaGreatDoorShQ38
import Derived.Test.YtdipojfngdceoaaGreatDoorShQ39
import Derived.Test.YtdipojfngdceoaaGreatDoorShQ41
import Derived.Test.YtdipojfngdceoaaGreatDoorProg
import Derived.WalkKit
import Derived.WalkSpells
import Derived.WalkLawsBesides
namespace Go.Proofs.YtdipojfngdceoaaGreatDoor
open Go.RowKit
namespace Dp
def BentRow (w : World) (g n : Nat) : Prop := ∃ C : Array Value, w.heap[g]? = some (.cells C 5 (C.size, C.size + 1)) ∧ n ≤ C.size ∧ ∀ j, j < n → ∃ z : Nat, z < 256 ∧ C[j]? = some (.int .u8 (z : Int))
theorem BentRow.cell {w : World} {g n : Nat} (h : BentRow w g n) (j : Nat) (hj : j < n) : ∃ z : Nat, z < 256 ∧ w.cell? ⟨g, j, none⟩ = some (.int .u8 (z : Int)) ∧ w.frozen? ⟨g, j, none⟩ = false := by
 obtain ⟨C, h1, h2, h3⟩ := h
 obtain ⟨z, hz, hc⟩ := h3 j hj
 refine ⟨z, hz, ?_, ?_⟩
 ·simp [World.cell?, h1, hc]
 ·simp [World.frozen?, h1]; omega
theorem BentRow.set {w : World} {g n : Nat} (h : BentRow w g n) (j : Nat) (hj : j < n) (z : Int) (hz : 0 ≤ z ∧ z < 256) : BentRow (w.setCell ⟨g, j, none⟩ (.int .u8 z)) g n := by
 obtain ⟨C, h1, h2, h3⟩ := h
 refine ⟨C.setIfInBounds j (.int .u8 z), ?_, by simpa using h2, fun i hi => ?_⟩
 ·simp [World.setCell, Array.getElem?_modify, h1]
 ·by_cases e : i = j
  ·subst e
   refine ⟨z.toNat, by omega, ?_⟩
   rw [Array.getElem?_setIfInBounds_self_of_lt (by omega), Int.toNat_of_nonneg hz.1]
  ·rw [Array.getElem?_setIfInBounds_ne (fun e2 => e e2.symm)]
   exact h3 i hi
theorem BentRow.text {w : World} {g n : Nat} (h : BentRow w g n) : ∃ l : List UInt8, l.length = n ∧ ∀ j (hj : j < l.length), w.cell? ((⟨g, 0, none⟩ : Addr).add j) = some (.int .u8 (l[j].toNat : Int)) := by
 have H : ∀ j, ∃ x : UInt8, j < n → w.cell? ⟨g, j, none⟩ = some (.int .u8 (x.toNat : Int)) := by
  intro j
  by_cases hj : j < n
  ·obtain ⟨z, hz, hc, _⟩ := h.cell j hj
   refine ⟨UInt8.ofNat z, fun _ => ?_⟩
   rw [hc, UInt8.toNat_ofNat_of_lt' (show z < UInt8.size by unfold UInt8.size; omega)]
  ·exact ⟨0, fun e => absurd e hj⟩
 refine ⟨(List.range n).map fun j => Classical.choose (H j), by simp, fun j hj => ?_⟩
 have hj' : j < n := by simpa using hj
 rw [add_zero_off, List.getElem_map, List.getElem_range]
 exact Classical.choose_spec (H j) hj'
theorem wpList_toBytesM {P : Program} {w : World} {ops : Array Oper} {rest : List Oper} {o : Oper} {a : Act} {Q : Exit → Act → World → Prop} (hgd : o.guard = none) (x : Operand) (sT dT : TypeId)
  (ho : o.op = .convert sT dT x) (hs : P.underlying sT = some .string) (hd : P.underlying dT = some (.slice 5)) (he : P.underlying 5 = some (.int .u8)) (l : List UInt8) (hx : a.eval x = .string (str l))
  (hK : ∀ cap w', BentRow w' w.heap.size l.length → w'.heap.size = w.heap.size + 1 → Keeps (fun _ => False) w w' → wpList P ops Q rest (a.put o.dst (.slice (some ⟨w.heap.size, 0, none⟩) l.length cap)) w') : wpList P ops Q (o :: rest) a w := by
 refine wpList_plain hgd fun K hK' => ?_
 have hrun := run_bytes_of_string (P := P) w sT dT 5 (str l) hs hd he
 rw [str_size] at hrun
 unfold Oper.wp
 simp only [execOp, ho, hx, hrun, Sem.run_bind, Result.andThen]
 have hge := grownCap_ge w l.length 0 5
 generalize grownCap w l.length 0 5 = cap at *
 refine hK' _ _ (hK cap _ ⟨_, heap_alloc_new w.drew _, ?_, fun j hj => ?_⟩ (by simp) ((Keeps.refl _ _).drew.alloc _))
 ·unfold bytesRow; simp [str]
 ·unfold bytesRow
  rw [Array.getElem?_append_left (by simp [str]; exact hj)]
  exact ⟨l[j].toNat, UInt8.toNat_lt _, by simp [str, hj]⟩
end Dp
set_option maxRecDepth 100000 in
set_option maxHeartbeats 1000000 in
theorem lawBent (s : List UInt8) (t : ByteArray) (at_ : Int) (w : World) (hs : s.length ≤ 16777216) (ht : t.size ≤ 16777216) :
  Calls Tryz.prog 65 #[.string (Dp.str s), .string t, .int .i64 at_] w fun e w' => ∃ l : List UInt8, l.length = s.length ∧ e = .returned (.string (Dp.str l)) ∧ Dp.Keeps (fun _ => False) w w' := by
 go_enter Tryz.func65, Tryz.ntmps65
 go_wp2_with (refine Dp.wpList_toBytesM rfl _ 9 47 rfl Tryz.underlying9 Tryz.underlying47 Tryz.underlying5 s rfl ?_)
 intro cap w1 r1 z1 k1
 obtain ⟨n, hsn⟩ : ∃ n, s.length = n := ⟨_, rfl⟩
 rw [hsn] at r1 hs ⊢
 have HSN := Hid.mk_ hsn
 clear z1 hsn
 go_wp2
 go_loopw [8, 9] (fun i _ wr => ∃ j : Nat, j ≤ t.size ∧ i = .int .i64 j ∧ Hid (Dp.BentRow wr w.heap.size n) ∧ Hid (Dp.Keeps (fun _ => False) w wr)) (fun i _ _ => t.size - (intOf i).toNat)
 case atStart => exact ⟨0, Nat.zero_le _, rfl, r1, k1⟩
 case round =>
  clear r1 k1
  obtain ⟨j, hj, rfl, HB, HK⟩ := hrel
  by_cases hlt : j < t.size
  ·have hlt' : (j : Int) < (t.size : Int) := by omega
   by_cases hn : 0 < n
   ·have hn' : (0 : Int) < (n : Int) := by omega
    obtain ⟨K, hK⟩ : ∃ K, IntKind.i64.wrap (at_ + (j : Int)) = K := ⟨_, rfl⟩
    have hKb : -9223372036854775808 ≤ K ∧ K ≤ 9223372036854775807 := by rw [← hK, IntKind.wrap_i64]; omega
    have hb : t[j].toNat < 256 := t[j].toNat_lt
    have hc : ∃ q : Nat, (q : Int) ≤ 9223372036854775807 ∧ (K = -(q : Int) - 1 ∨ K = (q : Int)) := by
     by_cases hneg : K < 0
     ·exact ⟨(-(K + 1)).toNat, by omega, by omega⟩
     ·exact ⟨K.toNat, by omega, by omega⟩
    obtain ⟨q, hqb, hq⟩ := hc
    obtain ⟨x, hx, cx, fx⟩ := HB.out.cell (q % n) (Nat.mod_lt _ hn)
    have hm : (q : Int) % (n : Int) = ((q % n : Nat) : Int) := (Int.natCast_emod q n).symm
    have hmn : q % n < n := Nat.mod_lt _ hn
    have HN : Hid (∀ z : Int, 0 ≤ z ∧ z < 256 → Dp.BentRow (wr.setCell ⟨w.heap.size, q % n, none⟩ (.int .u8 z)) w.heap.size n) := fun z hz => HB.out.set (q % n) hmn z hz
    generalize q % n = r at *
    rcases hq with rfl | rfl
    ·go_wp2
     go_region
     go_wp2
     go_roundw
     case rel => exact ⟨j + 1, by omega, by go_num, HN.out _ (by omega), (HK.out.setCell (p := ⟨w.heap.size, r, none⟩) (.inl (Nat.le_refl _)) _).drew⟩
     case measure => simp [intOf]; omega
    ·go_wp2
     go_region
     go_wp2
     go_roundw
     case rel => exact ⟨j + 1, by omega, by go_num, HN.out _ (by omega), (HK.out.setCell (p := ⟨w.heap.size, r, none⟩) (.inl (Nat.le_refl _)) _).drew⟩
     case measure => simp [intOf]; omega
   ·have hn' : ¬ (0 : Int) < (n : Int) := by omega
    obtain ⟨l, hl, hlc⟩ := HB.out.text
    have hconv := run_convert_bytes_back (P := Tryz.prog) wr 47 9 5 ⟨w.heap.size, 0, none⟩ cap l Tryz.underlying47 Tryz.underlying5 Tryz.underlying9 hlc
    rw [hl] at hconv
    have HL := Hid.mk_ hl
    clear hl hlc
    go_wp2
    go_ret
    exact ⟨l, HL.out.trans HSN.out.symm, rfl, HK.out⟩
  ·have hlt' : ¬ (j : Int) < (t.size : Int) := by omega
   obtain ⟨l, hl, hlc⟩ := HB.out.text
   have hconv := run_convert_bytes_back (P := Tryz.prog) wr 47 9 5 ⟨w.heap.size, 0, none⟩ cap l Tryz.underlying47 Tryz.underlying5 Tryz.underlying9 hlc
   rw [hl] at hconv
   have HL := Hid.mk_ hl
   clear hl hlc
   go_wp2
   go_ret
   exact ⟨l, HL.out.trans HSN.out.symm, rfl, HK.out⟩
namespace Dp
structure Sd where
 s : Nat
 b : Nat
 p : Nat
 g : Nat
 G : Nat → Prop
 vs : Value
 vr : Value
def Sd.at (d : Sd) (w : World) (m : Mach) : Prop := Side w d.s d.b d.p d.g d.G d.vs d.vr m
def Sd.In (d : Sd) (k : Nat) : Prop := k = d.s ∨ k = d.b ∨ k = d.p ∨ k = d.g ∨ d.G k ∨ d.vr.ownBlock = some k
def Sd.foot (d : Sd) : Nat → Prop := Foot d.b d.p d.g
theorem Sd.footIn (d : Sd) {k : Nat} (h : d.foot k) : d.In k := by
 rcases h with h | h | h
 ·exact .inr (.inl h)
 ·exact .inr (.inr (.inl h))
 ·exact .inr (.inr (.inr (.inl h)))
theorem Sd.keep {d : Sd} {S : Nat → Prop} {w w' : World} {m : Mach} (h : d.at w m) (k : Keeps S w w') (hS : ∀ q, d.In q → ¬ S q) : d.at w' m :=
 Side.keep h k (hS _ (.inl rfl)) (hS _ (.inr (.inl rfl))) (hS _ (.inr (.inr (.inl rfl)))) (hS _ (.inr (.inr (.inr (.inl rfl))))) (fun q hq => hS q (.inr (.inr (.inr (.inr (.inl hq)))))) (fun q hq => hS q (.inr (.inr (.inr (.inr (.inr hq))))))
theorem Sd.still {d : Sd} {w w' : World} {m : Mach} (h : d.at w m) (k : Keeps (fun _ => False) w w') : d.at w' m := Side.still h k
theorem Sd.lt {d : Sd} {w : World} {m : Mach} (h : d.at w m) : ∀ q, d.In q → q < w.heap.size := by
 rintro q (e | e | e | e | e | e)
 ·exact e ▸ h.row.lt
 ·exact e ▸ h.prog.row.lt
 ·exact e ▸ h.ref.lt.1
 ·exact e ▸ h.ref.lt.2
 ·exact (h.prog.own q e).1
 ·exact h.ref.src.lt q e
theorem Sd.looked {d : Sd} {w w' : World} {m : Mach} (h : d.at w m) (k : Keeps (fun q => q = d.p) w w') (hr : RefM w' d.p d.g d.vr m) : d.at w' m := by
 obtain ⟨n1, n2, n3, n4, n5, n6, n7⟩ := Side.ne h
 exact ⟨h.row.keep k n2, h.prog.keep k n4 (fun q hq => (h.apart q hq).1), hr, h.apart⟩
structure LSt where
 T : Nat → Prop
 v0 : Value
 v1 : Value
 v2 : Value
 v3 : Value
 v4 : Value
 v5 : Value
 x1 : List Value
 x2 : List Value
 x3 : List Value
 x4 : List Value
 x5 : List Value
def LSt.at (L : LSt) (w : World) (W : Nat) : Prop := Lists w W L.T L.v0 L.v1 L.v2 L.v3 L.v4 L.v5 L.x1 L.x2 L.x3 L.x4 L.x5
def LSt.F (L : LSt) (W k : Nat) : Prop := listF W L.T L.v1 L.v2 L.v3 L.v4 L.v5 k
def LSt.sz (L : LSt) (c : Nat) : Prop := L.x1.length ≤ 4 * c ∧ L.x2.length ≤ 3000000 + c ∧ L.x3.length ≤ 16 ∧ L.x4.length ≤ c ∧ L.x5.length ≤ 16
theorem LSt.kept {L : LSt} {w : World} {W c : Nat} (h : L.at w W) (hs : L.sz c) (hc : c ≤ 2000002) : KeptOk w W L.v0 L.v1 L.v2 L.v3 L.v4 L.v5 := by
 obtain ⟨h1, h2, h3, h4, h5⟩ := hs
 exact Lists.kept h (by omega) (by omega) (by omega) (by omega) (by omega)
theorem LSt.sz_mono {L : LSt} {c c' : Nat} (h : L.sz c) (hc : c ≤ c') : L.sz c' := by
 obtain ⟨h1, h2, h3, h4, h5⟩ := h
 exact ⟨by omega, by omega, h3, by omega, h5⟩
def Left (w w' : World) (W : Nat) (d : Sd) (L : LSt) (c : Nat) : Prop :=
 ∃ (L' : LSt) (m' : Mach), L'.at w' W ∧ L'.v0 = L.v0 ∧ d.at w' m' ∧ L'.sz (c + 1) ∧ (∀ k, L'.F W k → L.F W k ∨ w.heap.size ≤ k) ∧ Keeps (fun k => d.foot k ∨ L.F W k) w w'
end Dp
theorem lawStepLow (w : World) (W : Nat) (d : Dp.Sd) (m : Dp.Mach) (L : Dp.LSt) (c : Nat) (kind n : Int) (vA : Value) (St : ByteArray) (which : Bool) (hL : L.at w W) (hd : d.at w m) (hap : ∀ k, L.F W k → ¬ d.In k) (hsz : L.sz c) (hk : kind ≤ 5) :
  Calls Tryz.prog 32 #[.pointer (some ⟨W, 0, none⟩), .pointer (some ⟨d.s, 0, none⟩), .agg (Dp.opCells kind n vA St which).toArray] w fun e w' => e = .returned (.bool true) ∧ Dp.Left w w' W d L c := by
 refine (lawStep w W d.s d.b d.p d.g d.G d.vs d.vr m kind n vA St which hd hk).mono ?_
 rintro e w' ⟨he, k, h⟩
 exact ⟨he, L, _, Dp.Lists.keep hL k (fun q hq e => hap q hq (d.footIn e)), rfl, h, Dp.LSt.sz_mono hsz (by omega), fun k h => .inl h, k.mono (fun q _ e => .inl e)⟩
set_option maxRecDepth 100000 in
set_option maxHeartbeats 1000000 in
theorem lawStep7 (w : World) (W : Nat) (d : Dp.Sd) (m : Dp.Mach) (L : Dp.LSt) (c : Nat) (eb : Addr) (kind n : Int) (vA : Value) (St : ByteArray) (which : Bool) (hL : L.at w W) (hd : d.at w m) (hap : ∀ k, L.F W k → ¬ d.In k) (hsz : L.sz c) (hc : c ≤ 2000000) (he : Dp.ErrAt w eb) (hS : St.size ≤ 1048576) (hk : kind = 7) :
  Calls Tryz.prog 32 #[.pointer (some ⟨W, 0, none⟩), .pointer (some ⟨d.s, 0, none⟩), .agg (Dp.opCells kind n vA St which).toArray] w fun e w' => e = .returned (.bool true) ∧ Dp.Left w w' W d L c := by
 have HL := Hid.mk_ hL
 have HD := Hid.mk_ hd
 have HAP := Hid.mk_ hap
 have HSZ := Hid.mk_ hsz
 have HE := Hid.mk_ he
 clear hL hd hap hsz he
 go_enter Tryz.func32, Tryz.ntmps32
 go_wp2_with (refine Dp.wpList_box_row rfl 40 _ rfl (Dp.opCells kind n vA St which) rfl ?_)
 intro w1 r1 z1 k1
 subst hk
 obtain ⟨o0, o1, _, o3, _⟩ := r1.ops
 have HL1 := Hid.mk_ (Dp.Lists.still HL.out k1)
 have HE1 := Hid.mk_ (HE.out.keep k1)
 have HSS : Hid (Dp.str St.data.toList = St) := Dp.str_toList St
 have HSL : Hid (St.data.toList.length = St.size) := by unfold Hid; simp
 have HK1 := Hid.mk_ k1
 clear r1 k1
 go_wp2_with fail
 have hcall := lawChecks St.data.toList n w1 W eb L.v0 L.v1 L.v2 L.v3 L.v4 L.v5 L.x2 (by rw [HSL.out]; omega) (by have := HSZ.out.2.1; omega) HE1.out HL1.out.row HL1.out.l2.own
 rw [HSS.out] at hcall
 refine hcall.mono ?_
 clear hcall
 rintro e w2 ⟨rfl, k2, v2', b, hr, ho, hb, hrb, hf⟩
 have HFF : Hid (Dp.Left w w2 W d L c) := by
  have hT := Dp.Lists.turned HL1.out k2 hr ho hb (by rw [HSL.out]; omega) hrb hf
  have hs := HSZ.out
  obtain ⟨s1, s2, s3, s4, s5⟩ := hs
  have hsz1 := HK1.out.size
  refine ⟨⟨_, L.v0, L.v1, v2', L.v3, L.v4, L.v5, L.x1, _, L.x3, L.x4, L.x5⟩, m, hT, rfl, Dp.Sd.keep (Dp.Sd.still HD.out HK1.out) k2 (fun q hq e => ?_), ⟨by show L.x1.length ≤ _; omega, by show (L.x2 ++ _).length ≤ _; rw [List.length_append, List.length_singleton]; omega, s3, by show L.x4.length ≤ _; omega, s5⟩, fun k hk => ?_, ?_⟩
  ·rcases e with e | e
   ·exact HAP.out q (.inl e) hq
   ·exact HAP.out q (.inr (.inr (.inr (.inl e)))) hq
  ·rcases hk with e | (e | e) | e | e | e
   ·exact .inl (.inl e)
   ·exact .inl (.inr (.inl e))
   ·exact .inr (by omega)
   ·exact .inl (.inr (.inr (.inl e)))
   ·rcases hf with hf | hf
    ·exact .inl (.inr (.inr (.inr (.inl (hf ▸ e)))))
    ·exact .inr (by have := hf k e; omega)
   ·exact .inl (.inr (.inr (.inr (.inr e))))
  ·refine (HK1.out.mono (fun _ _ e => e.elim)).next k2 (fun q _ e => ?_)
   rcases e with e | e
   ·exact .inr (.inl e)
   ·exact .inr (.inr (.inr (.inr (.inl e))))
 clear k2 hr ho hb hrb hf
 go_wp2
 go_ret
 exact ⟨rfl, HFF.out⟩
theorem Dp.docWitness_eq (m : Dp.Mach) : Dp.docWitness m = Dp.witnessOf m := by
 unfold Dp.docWitness Dp.witnessOf
 by_cases h : m.step.2 = 0
 ·rw [if_neg (by rw [h]; decide), if_neg (by rw [h]; decide), Dp.shown_doc m h]
 ·rw [if_pos h, if_pos h]
theorem Dp.docWitness_length (m : Dp.Mach) (hok : m.Ok) : (Dp.docWitness m).length ≤ 268 := by
 unfold Dp.docWitness
 split
 ·simp
 ·have := Dp.docShown_length m hok
  rw [List.length_append, Dp.label_length m.s (Dp.root m.cells) hok.s.len]
  omega
set_option maxRecDepth 100000 in
set_option maxHeartbeats 1000000 in
theorem lawStep6 (w : World) (W : Nat) (d : Dp.Sd) (m : Dp.Mach) (L : Dp.LSt) (c : Nat) (kind n : Int) (vA : Value) (St : ByteArray) (which : Bool) (hL : L.at w W) (hd : d.at w m) (hap : ∀ k, L.F W k → ¬ d.In k) (hsz : L.sz c) (hc : c ≤ 2000000) (hk : kind = 6) :
  Calls Tryz.prog 32 #[.pointer (some ⟨W, 0, none⟩), .pointer (some ⟨d.s, 0, none⟩), .agg (Dp.opCells kind n vA St which).toArray] w fun e w' => e = .returned (.bool true) ∧ Dp.Left w w' W d L c := by
 have HL := Hid.mk_ hL
 have HD := Hid.mk_ hd
 have HAP := Hid.mk_ hap
 have HSZ := Hid.mk_ hsz
 clear hL hd hap hsz
 go_enter Tryz.func32, Tryz.ntmps32
 go_wp2_with (refine Dp.wpList_box_row rfl 40 _ rfl (Dp.opCells kind n vA St which) rfl ?_)
 intro w1 r1 z1 k1
 subst hk
 obtain ⟨o0, _, _, _, _⟩ := r1.ops
 have HK1 := Hid.mk_ k1
 have hd1 := Dp.Sd.still HD.out k1
 have HD1 := Hid.mk_ hd1
 obtain ⟨c0, _⟩ := Dp.Side.cells hd1
 clear r1 k1 hd1
 go_wp2_with fail
 refine (progMWitness w1 d.b d.G d.vs m HD1.out.prog).mono ?_
 rintro e w2 ⟨v, rfl, ho, hf, k2⟩
 have hd2 := Dp.Sd.still HD1.out k2
 have HD2 := Hid.mk_ hd2
 obtain ⟨_, c1⟩ := Dp.Side.cells hd2
 have HO2 := Hid.mk_ ho
 have HF := Hid.mk_ hf
 have HK2 := Hid.mk_ k2
 obtain ⟨va, vc, ev⟩ := ho.isSlice
 generalize (Dp.vals (Dp.witnessOf m)).length = N at ev
 subst ev
 clear ho hf k2 hd2 c0 o0
 go_wp2_with fail
 refine (refWitness w2 d.p d.g d.vr m HD2.out.ref).mono ?_
 rintro e w3 ⟨rfl, k3, r3⟩
 have HD3 := Hid.mk_ (Dp.Sd.looked HD2.out k3 r3)
 have HO3 : Hid (Dp.Own w3 5 (.slice va N vc) (Dp.vals (Dp.witnessOf m))) := HO2.out.keep k3 (fun q hq e => by
  obtain ⟨⟨cs, hrow⟩, _⟩ := HD2.out.ref.rows
  exact HO2.out.ne hrow (by decide) q hq e)
 have HLN : Hid ((Dp.witnessOf m).length ≤ 1000) := by
  unfold Hid; have := Dp.docWitness_length m HD.out.prog.ok; rw [Dp.docWitness_eq] at this; omega
 have HK3 : Hid (Dp.Keeps (fun q => q = d.p) w w3) := ((HK1.out.trans HK2.out).mono (fun _ _ e => e.elim)).trans k3
 have HL3 : Hid (L.at w3 W) := Dp.Lists.keep HL.out HK3.out (fun q hq e => HAP.out q hq (.inr (.inr (.inl e))))
 have h5 : (convert 47 9 (.slice va N vc)).run Tryz.prog w3 = .ok (.string (Dp.str (Dp.witnessOf m))) w3 := Dp.run_toStr (Dp.own_bytes HO3.out)
 have HKO := Hid.mk_ (Dp.LSt.kept HL3.out HSZ.out (by omega))
 rw [Dp.docWitness_eq]
 clear k3 r3 c1
 generalize Dp.witnessOf m = X at *
 generalize m.step.2 = E at *
 go_wp2_with fail
 refine (lawKept w3 W _ _ _ _ _ _ HKO.out.row HKO.out.l1 HKO.out.l2 HKO.out.l3 HKO.out.l4 HKO.out.l5).mono ?_
 rintro e w4 ⟨rfl, nn, rfl⟩
 have k4 : Dp.Keeps (fun _ => False) w3 (w3.drewN nn) := (Dp.Keeps.refl (fun _ => False) w3).drewN nn
 have HL4 := Hid.mk_ (Dp.Lists.still HL3.out k4)
 have HO4 := Hid.mk_ (HO3.out.keep k4 (fun _ _ e => e))
 have HD4 := Hid.mk_ (Dp.Sd.still HD3.out k4)
 have HK4 := Hid.mk_ (HK3.out.next k4 (fun _ _ e => e.elim))
 have HFR : Hid (∀ q, (Value.slice va N vc).ownBlock = some q → w.heap.size ≤ q) := fun q hq => by have := HF.out q hq; have := HK1.out.size; omega
 have HLT := Hid.mk_ (Dp.Lists.lt HL.out)
 clear k4 h5 HKO
 go_wp2_with fail
 refine (lawKeep (w3.drewN nn) W L.T L.v0 L.v1 L.v2 L.v3 L.v4 L.v5 L.x1 L.x2 L.x3 L.x4 L.x5 (.slice va N vc) X HL4.out HO4.out HLN.out (by have := HSZ.out.1; omega) (fun q hq e => by have := HFR.out q hq; have := HLT.out q e; omega)).mono ?_
 rintro e w5 ⟨rfl, k5, T', u1, vls, hL5, hvl, hF5⟩
 have HFF : Hid (Dp.Left w w5 W d L c) := by
  obtain ⟨s1, s2, s3, s4, s5⟩ := HSZ.out
  have hlt := Dp.Sd.lt HD.out
  have hs4 := HK4.out.size
  refine ⟨⟨T', L.v0, u1, L.v2, L.v3, L.v4, L.v5, L.x1 ++ vls, L.x2, L.x3, L.x4, L.x5⟩, m, hL5, rfl, Dp.Sd.keep HD4.out k5 (fun q hq e => ?_), ⟨by show (L.x1 ++ vls).length ≤ _; rw [List.length_append, hvl]; omega, by show L.x2.length ≤ _; omega, s3, by show L.x4.length ≤ _; omega, s5⟩, fun k hk => ?_, ?_⟩
  ·rcases e with e | e | e
   ·exact HAP.out q (.inl e) hq
   ·exact HAP.out q (.inr (.inr (.inl e))) hq
   ·have := HFR.out q e; have := hlt q hq; omega
  ·rcases hF5 k hk with e | e | e
   ·exact .inl e
   ·exact .inr (HFR.out k e)
   ·exact .inr (by omega)
  ·refine (HK4.out.mono (fun q _ e => .inl (.inr (.inl e)))).next k5 (fun q hq e => ?_)
   rcases e with e | e | e
   ·exact .inr (.inl e)
   ·exact .inr (.inr (.inr (.inl e)))
   ·have := HFR.out q e; omega
 clear k5 hL5 hvl hF5
 go_wp2
 go_ret
 exact ⟨rfl, HFF.out⟩
set_option maxRecDepth 100000 in
set_option maxHeartbeats 1000000 in
theorem lawStep8 (w : World) (W : Nat) (d : Dp.Sd) (m : Dp.Mach) (L : Dp.LSt) (c : Nat) (eb : Addr) (kind n : Int) (vA : Value) (St : ByteArray) (which : Bool) (hL : L.at w W) (hd : d.at w m) (hap : ∀ k, L.F W k → ¬ d.In k) (hsz : L.sz c) (hc : c ≤ 2000000) (he : Dp.ErrAt w eb) (hp0 : d.p ≠ 0) (hS : St.size ≤ 1048576) (hk : kind = 8) :
  Calls Tryz.prog 32 #[.pointer (some ⟨W, 0, none⟩), .pointer (some ⟨d.s, 0, none⟩), .agg (Dp.opCells kind n vA St which).toArray] w fun e w' => e = .returned (.bool true) ∧ Dp.Left w w' W d L c := by
 have HL := Hid.mk_ hL
 have HD := Hid.mk_ hd
 have HAP := Hid.mk_ hap
 have HSZ := Hid.mk_ hsz
 have HE := Hid.mk_ he
 clear hL hd hap hsz he
 go_enter Tryz.func32, Tryz.ntmps32
 go_wp2_with (refine Dp.wpList_box_row rfl 40 _ rfl (Dp.opCells kind n vA St which) rfl ?_)
 intro w1 r1 z1 k1
 subst hk
 obtain ⟨o0, _, _, _, _⟩ := r1.ops
 have HK1 := Hid.mk_ k1
 have hd1 := Dp.Sd.still HD.out k1
 have HD1 := Hid.mk_ hd1
 obtain ⟨_, c1⟩ := Dp.Side.cells hd1
 have HR1 := Hid.mk_ r1
 clear r1 k1 hd1
 go_wp2_with fail
 refine (refWitness w1 d.p d.g d.vr m HD1.out.ref).mono ?_
 rintro e w2 ⟨rfl, k2, r2⟩
 have hd2 := Dp.Sd.looked HD1.out k2 r2
 have HD2 := Hid.mk_ hd2
 have hwp : w.heap.size ≠ d.p := by have := Dp.Sd.lt HD.out d.p (.inr (.inr (.inl rfl))); omega
 have ro2 := HR1.out.keep k2 hwp
 have hsp : d.s ≠ d.p := (Dp.Side.ne HD.out).2.1
 have HLN : Hid ((Dp.docWitness m).length ≤ 268) := Dp.docWitness_length m HD.out.prog.ok
 have HK2 := Hid.mk_ k2
 have qx : ∀ wx, Dp.Keeps (fun q => q = d.p) w2 wx → wx.cell? ⟨d.s, 1, none⟩ = some (.pointer (some ⟨d.p, 0, none⟩)) := fun wx kx => (hd2.row.keep kx hsp).cell 1
 have q1 : ∀ wx, Dp.Keeps (fun q => q = d.p) w2 wx → wx.cell? ⟨w.heap.size, 1, none⟩ = some (.int .i64 n) := fun wx kx => ((ro2.keep kx hwp).ops).2.1
 have q3 : ∀ wx, Dp.Keeps (fun q => q = d.p) w2 wx → wx.cell? ⟨w.heap.size, 3, none⟩ = some (.string St) := fun wx kx => ((ro2.keep kx hwp).ops).2.2.2.1
 have hS0 : Dp.Keeps (fun q => q = d.p) w2 w2.drew := (Dp.Keeps.refl _ _).drew
 have HST : Hid (∀ wx, Dp.Keeps (fun q => q = d.p) w2 wx → Dp.RefM wx d.p d.g d.vr m → Calls Tryz.prog 61 #[.pointer (some ⟨d.p, 0, none⟩)] wx fun e w' => e = .returned (.int .i64 (Dp.stamp m.s (Dp.root m.cells))) ∧ Dp.Keeps (fun q => q = d.p) w2 w' ∧ Dp.RefM w' d.p d.g d.vr m) := fun wx kx hr => (refStamp wx d.p d.g d.vr m hr).mono fun _ _ ⟨h1, h2, h3⟩ => ⟨h1, kx.trans h2, h3⟩
 have HBE : Hid (∀ wx, Dp.Keeps (fun q => q = d.p) w2 wx → Calls Tryz.prog 65 #[.string (Dp.str (Dp.docWitness m)), .string St, .int .i64 n] wx fun e w' => ∃ l : List UInt8, l.length ≤ 268 ∧ e = .returned (.string (Dp.str l)) ∧ Dp.Keeps (fun _ => False) wx w') := fun wx kx => (lawBent (Dp.docWitness m) St n wx (by have := HLN.out; omega) (by omega)).mono fun _ _ ⟨l, h1, h2, h3⟩ => ⟨l, by have := HLN.out; omega, h2, h3⟩
 have HFIN : Hid (∀ (l : List UInt8) wx, l.length ≤ 268 → Dp.Keeps (fun q => q = d.p) w2 wx → Dp.RefM wx d.p d.g d.vr m → Calls Tryz.prog 64 #[.pointer (some ⟨W, 0, none⟩), .int .i64 (Dp.stamp m.s (Dp.root m.cells)), .string (Dp.str l)] wx fun e w' => e = .returned (.bool true) ∧ Dp.Left w w' W d L c) := by
  intro l wx hl kx hr
  have kwx : Dp.Keeps (fun q => q = d.p) w wx := ((HK1.out.mono (fun _ _ e => e.elim)).trans HK2.out).trans kx
  have hLx : L.at wx W := Dp.Lists.keep HL.out kwx (fun q hq e => HAP.out q hq (.inr (.inr (.inl e))))
  have hdx : d.at wx m := Dp.Sd.looked HD2.out kx hr
  have hex : Dp.ErrAt wx eb := (kwx.cell (p := ⟨0, 0, none⟩) (Dp.cell_lt HE.out) (fun e => hp0 e.symm)).trans HE.out
  refine (lawChecks l _ wx W eb L.v0 L.v1 L.v2 L.v3 L.v4 L.v5 L.x2 (by omega) (by have := HSZ.out.2.1; omega) hex hLx.row hLx.l2.own).mono ?_
  rintro e w3 ⟨he, k3, v2', b, hr3, ho, hb, hrb, hf⟩
  have hT := Dp.Lists.turned hLx k3 hr3 ho hb (by omega) hrb hf
  obtain ⟨s1, s2, s3, s4, s5⟩ := HSZ.out
  have hszx := kwx.size
  refine ⟨he, ⟨_, L.v0, L.v1, v2', L.v3, L.v4, L.v5, L.x1, _, L.x3, L.x4, L.x5⟩, m, hT, rfl, Dp.Sd.keep hdx k3 (fun q hq e => ?_), ⟨by show L.x1.length ≤ _; omega, by show (L.x2 ++ _).length ≤ _; rw [List.length_append, List.length_singleton]; omega, s3, by show L.x4.length ≤ _; omega, s5⟩, fun k hk => ?_, ?_⟩
  ·rcases e with e | e
   ·exact HAP.out q (.inl e) hq
   ·exact HAP.out q (.inr (.inr (.inr (.inl e)))) hq
  ·rcases hk with e | (e | e) | e | e | e
   ·exact .inl (.inl e)
   ·exact .inl (.inr (.inl e))
   ·exact .inr (by omega)
   ·exact .inl (.inr (.inr (.inl e)))
   ·rcases hf with hf | hf
    ·exact .inl (.inr (.inr (.inr (.inl (hf ▸ e)))))
    ·exact .inr (by have := hf k e; omega)
   ·exact .inl (.inr (.inr (.inr (.inr e))))
  ·refine (kwx.mono (fun q _ e => .inl (.inr (.inl e)))).next k3 (fun q _ e => ?_)
   rcases e with e | e
   ·exact .inr (.inl e)
   ·exact .inr (.inr (.inr (.inr (.inl e))))
 clear k2 r2 hd2 ro2 c1 o0
 have HRM : Hid (∀ wx, Dp.Keeps (fun _ => False) w2 wx → Dp.RefM wx d.p d.g d.vr m) := fun wx kx => HD2.out.ref.keep kx (fun e => e) (fun e => e) (fun _ _ e => e)
 generalize Dp.stamp m.s (Dp.root m.cells) = SX at *
 generalize Dp.str (Dp.docWitness m) = WX at *
 generalize m.step.2 = E at *
 go_wp2
 refine Dp.wp_region_L (fun wx => Dp.Keeps (fun q => q = d.p) w2 wx) 12 mixedP ?_
 refine' Dp.tj 0 hS0 ?_
 simp only [Act.put, Dp.tks]
 refine' Dp.tj 1 hS0 ?_
 simp only [Act.put, Dp.tks]
 refine' Dp.tj 2 hS0 ?_
 simp only [Act.put, Dp.tks]
 refine' Dp.tj 3 hS0 ?_
 simp only [Act.put, Dp.tks]
 refine' Dp.tj 4 hS0 ?_
 simp only [Act.put, Dp.tks]
 refine' Dp.tj 6 hS0 ?_
 simp only [Act.put, Dp.tks]
 refine' Dp.tj 7 hS0 ?_
 simp only [Act.put, Dp.tks]
 refine' Dp.tj 8 hS0 ?_
 simp only [Act.put, Dp.tks]
 refine' Dp.tj 9 hS0 ?_
 simp only [Act.put, Dp.tks]
 refine' Dp.tj 10 hS0 ?_
 simp only [Act.put, Dp.tks]
 refine Dp.wpAnyL_one 5 rfl (by kernel_rfl) (by rfl) (fun K hK => ?_)
 go_simp
 refine (HST.out _ hS0 (HRM.out _ ((Dp.Keeps.refl _ _).drew))).mono ?_
 rintro e w3 ⟨rfl, k3, r3⟩
 refine hK _ _ ⟨fun _ => k3, ?_⟩
 clear hK K
 refine Dp.wpAnyL_one 11 rfl (by kernel_rfl) (by rfl) (fun K hK => ?_)
 go_simp
 refine (HBE.out _ k3).mono ?_
 rintro e w4 ⟨l, hl, rfl, k4⟩
 have k34 := k3.next k4 (fun _ _ e => e.elim)
 refine hK _ _ ⟨fun _ => k34, ?_⟩
 clear hK K
 have HC := Hid.mk_ (HFIN.out l w4 hl k34 (r3.keep k4 (fun e => e) (fun e => e) (fun _ _ e => e)))
 refine Dp.wpAnyL_rest (by kernel_rfl) ?_
 refine Dp.wpAny_tail 12 rfl (by kernel_rfl) ?_
 simp only [List.drop_succ_cons, List.drop_zero]
 clear qx q1 q3 hS0 k3 k4 k34 r3 HST HBE HFIN HRM
 generalize Dp.str l = sl at *
 go_wp2_with fail
 refine HC.out.mono ?_
 rintro e w5 ⟨rfl, hlf⟩
 have HLF := Hid.mk_ hlf
 clear hlf
 go_wp2
 go_ret
 exact ⟨rfl, HLF.out⟩
end Go.Proofs.YtdipojfngdceoaaGreatDoor
