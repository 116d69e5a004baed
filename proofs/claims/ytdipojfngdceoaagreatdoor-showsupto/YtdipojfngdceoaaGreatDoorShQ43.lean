/- Steps on the way: LawPlayA, LawOpensA. -/
import Derived.Test.YtdipojfngdceoaaGreatDoorShQ23
import Derived.Test.YtdipojfngdceoaaGreatDoorShQ38
import Derived.Test.YtdipojfngdceoaaGreatDoorShQ42
namespace Go.Proofs.YtdipojfngdceoaaGreatDoor
open Go.RowKit
namespace Dp
structure PlaySt (B : Nat) (w : World) (W : Nat) (ds : List Sd) (ms : Nat → Mach) (L : LSt) (sg scap : Nat) : Prop where
 lists : L.at w W
 v0 : L.v0 = .slice (some ⟨sg, 0, none⟩) ds.length scap
 sides : ∀ i (h : i < ds.length), ds[i].at w (ms i)
 cells : ∀ i (h : i < ds.length), w.cell? ⟨sg, i, none⟩ = some (.pointer (some ⟨ds[i].s, 0, none⟩))
 apF : ∀ i (h : i < ds.length), ∀ k, L.F W k → ¬ ds[i].In k
 apS : ∀ i j (hi : i < ds.length) (hj : j < ds.length), i ≠ j → ∀ k, ds[i].foot k → ¬ ds[j].In k
 sgF : ¬ L.F W sg
 sgS : ∀ i (h : i < ds.length), ¬ ds[i].foot sg
 lowF : ∀ k, L.F W k → B ≤ k
 lowS : ∀ i (h : i < ds.length), ∀ k, ds[i].foot k → B ≤ k
theorem PlaySt.still {B : Nat} {w w' : World} {W : Nat} {ds : List Sd} {ms : Nat → Mach} {L : LSt} {sg scap : Nat} (h : PlaySt B w W ds ms L sg scap) (k : Keeps (fun _ => False) w w') : PlaySt B w' W ds ms L sg scap :=
 ⟨Lists.still h.lists k, h.v0, fun i hi => Sd.still (h.sides i hi) k, fun i hi => (k.cell (p := ⟨sg, i, none⟩) (cell_lt (h.cells i hi)) (fun e => e)).trans (h.cells i hi), h.apF, h.apS, h.sgF, h.sgS, h.lowF, h.lowS⟩
theorem PlaySt.left {B : Nat} {w w' : World} {W : Nat} {ds : List Sd} {ms : Nat → Mach} {L : LSt} {sg scap c : Nat} (h : PlaySt B w W ds ms L sg scap) (i : Nat) (hi : i < ds.length) (hl : Left w w' W ds[i] L c) : ∃ L' ms', PlaySt B w' W ds ms' L' sg scap ∧ L'.sz (c + 1) ∧ Keeps (fun k => B ≤ k) w w' := by
 obtain ⟨L', m', h1, h2, h3, h4, h5, h6⟩ := hl
 have hsg : sg < w.heap.size := cell_lt (h.cells i hi)
 have hlt : ∀ j (hj : j < ds.length) k, ds[j].In k → k < w.heap.size := fun j hj k hk => Sd.lt (h.sides j hj) k hk
 have hS : ∀ j (hj : j < ds.length), j ≠ i → ∀ k, ds[j].In k → ¬ (ds[i].foot k ∨ L.F W k) := fun j hj hne k hk e => e.elim (fun e => h.apS i j hi hj (Ne.symm hne) k e hk) (fun e => h.apF j hj k e hk)
 refine ⟨L', fun j => if j = i then m' else ms j, ⟨h1, h2.trans h.v0, fun j hj => ?_, fun j hj => ?_, fun j hj k hk e => ?_, h.apS, fun e => ?_, h.sgS, fun k hk => ?_, h.lowS⟩, h4, h6.mono (fun k hk e => ?_)⟩
 ·by_cases e : j = i
  ·subst e; rw [if_pos rfl]; exact h3
  ·rw [if_neg e]; exact Sd.keep (h.sides j hj) h6 (hS j hj e)
 ·rw [h6.cell (p := ⟨sg, j, none⟩) hsg (fun e => e.elim (h.sgS i hi) h.sgF)]
  exact h.cells j hj
 ·rcases h5 k hk with e' | e'
  ·exact h.apF j hj k e' e
  ·have := hlt j hj k e; omega
 ·rcases h5 sg e with e' | e'
  ·exact h.sgF e'
  ·omega
 ·rcases h5 k hk with e' | e'
  ·exact h.lowF k e'
  ·have := h.lowF W (.inl rfl); have := Lists.lt h.lists W (.inl rfl); omega
 ·rcases e with e | e
  ·exact h.lowS i hi k e
  ·exact h.lowF k e
end Dp
theorem lawEndedA (w : World) (W : Nat) (d : Dp.Sd) (m : Dp.Mach) (L : Dp.LSt) (c : Nat) (hL : L.at w W) (hd : d.at w m) (hap : ∀ k, L.F W k → ¬ d.In k) (hsz : L.sz c) :
  Calls Tryz.prog 34 #[.pointer (some ⟨W, 0, none⟩), .pointer (some ⟨d.s, 0, none⟩)] w fun e w' => e = .returned (.bool true) ∧ Dp.Left w w' W d L c := by
 refine (lawEnded w W d.s d.b d.p d.g d.G d.vs d.vr m hd).mono ?_
 rintro e w' ⟨he, k, h⟩
 exact ⟨he, L, m, Dp.Lists.keep hL k (fun q hq e => hap q hq (d.footIn e)), rfl, h, Dp.LSt.sz_mono hsz (by omega), fun k h => .inl h, k.mono (fun q _ e => .inl e)⟩
set_option maxRecDepth 100000 in
set_option maxHeartbeats 2000000 in
theorem lawPlayA (w : World) (W B c sg scap : Nat) (ds : List Dp.Sd) (ms : Nat → Dp.Mach) (L : Dp.LSt) (eb : Addr) (h : Dp.PlaySt B w W ds ms L sg scap) (hsz : L.sz c) (nn : Nat) (hn : ds.length = nn + 1) (hn2 : nn ≤ 3) (hB : 0 < B)
  (ops : List Dp.SOp) (hc : c + ops.length + 20 ≤ 2000000) (hE : ∀ w', Dp.Keeps (fun k => B ≤ k) w w' → Dp.ErrAt w' eb) (most : Int) (hm : 6 ≤ most ∧ most ≤ 100) (P : World → Dp.SOp → Prop)
  (hstep : ∀ (w' : World) (d : Dp.Sd) (m : Dp.Mach) (L : Dp.LSt) (c : Nat) (o : Dp.SOp), P w' o → L.at w' W → d.at w' m → (∀ k, L.F W k → ¬ d.In k) → L.sz c → c ≤ 2000000 → Dp.ErrAt w' eb → d.p ≠ 0 → o.kind ≤ most → Calls Tryz.prog 32 #[.pointer (some ⟨W, 0, none⟩), .pointer (some ⟨d.s, 0, none⟩), .agg (Dp.opCells o.kind o.n o.vA o.St o.which).toArray] w' fun e w'' => e = .returned (.bool true) ∧ Dp.Left w' w'' W d L c)
  (hP : ∀ w', Dp.Keeps (fun k => B ≤ k) w w' → ∀ o ∈ ops, P w' o) (ob oo ocap : Nat) (oad : Option Addr) (hoad : ops ≠ [] → oad = some ⟨ob, oo, none⟩)
  (hA : ∀ x ∈ ops, x.vA.oneCell' = true) (hN : ∀ x ∈ ops, -9223372036854775808 ≤ x.kind ∧ x.kind ≤ 9223372036854775807)
  (hO : ∀ w', Dp.Keeps (fun k => B ≤ k) w w' → ∀ i (hi : i < ops.length), ∀ j, j < 5 → w'.cell? ⟨ob, oo + i * 5 + j, none⟩ = ops[i].cells[j]?) :
  Calls Tryz.prog 14 #[.pointer (some ⟨W, 0, none⟩), .slice oad ops.length ocap, .int .i64 most] w fun e w' => e = .returned (.bool true) ∧ Dp.Keeps (fun k => B ≤ k) w w' := by
 have HO := Hid.mk_ hO
 have HA := Hid.mk_ hA
 have HN := Hid.mk_ hN
 have HOA := Hid.mk_ hoad
 have HST := Hid.mk_ hstep
 have HPP := Hid.mk_ hP
 have HE := Hid.mk_ hE
 have HNN := Hid.mk_ hn
 have HSZ := Hid.mk_ hsz
 have H := Hid.mk_ h
 have HW0 : Hid (∀ {w' : World} {ms' : Nat → Dp.Mach} {L' : Dp.LSt}, Dp.PlaySt B w' W ds ms' L' sg scap → w'.cell? ⟨W, 0, none⟩ = some (.slice (some ⟨sg, 0, none⟩) (nn + 1) scap)) := fun h' => by
  have h1 := h'.lists.row.cell 0
  rw [h'.v0, hn] at h1
  exact h1
 have cw0 := HW0.out h
 clear hO hA hN hoad hstep hP hE hn hsz h
 go_enter Tryz.func14, Tryz.ntmps14
 go_wp2
 clear cw0
 go_loopw [8, 9, 10, 11, 12] (fun i _ _ _ _ wr => ∃ (k : Nat) (L' : Dp.LSt) (ms' : Nat → Dp.Mach), k ≤ ops.length ∧ i = .int .i64 k ∧ Hid (Dp.PlaySt B wr W ds ms' L' sg scap) ∧ Hid (L'.sz (c + k)) ∧ Hid (Dp.Keeps (fun k => B ≤ k) w wr)) (fun i _ _ _ _ _ => ops.length - (intOf i).toNat)
 case atStart => exact ⟨0, L, ms, Nat.zero_le _, rfl, H, HSZ, Dp.Keeps.refl _ _⟩
 case round =>
  obtain ⟨k, L', ms', hk, rfl, HS, HZ, HK⟩ := hrel
  by_cases hlt : k < ops.length
  ·obtain rfl := HOA.out (by intro e; simp [e] at hlt)
   have hc' := HO.out wr HK.out k hlt
   have e0 := hc' 0 (by omega)
   have e1 := hc' 1 (by omega)
   have e2 := hc' 2 (by omega)
   have e3 := hc' 3 (by omega)
   have e4 := hc' 4 (by omega)
   have hone := HA.out _ (List.getElem_mem hlt)
   have hnk := HN.out _ (List.getElem_mem hlt)
   have HPO : Hid (∀ w', Dp.Keeps (fun k => B ≤ k) w w' → P w' ops[k]) := fun w' kx => HPP.out w' kx _ (List.getElem_mem hlt)
   generalize ops[k] = o at *
   obtain ⟨kind, n, vA, St, which⟩ := o
   simp only [Dp.SOp.cells, Dp.opCells, List.getElem?_cons_zero, List.getElem?_cons_succ, Nat.add_zero] at e0 e1 e2 e3 e4 hone hnk
   clear hc'
   have HZO : Hid ((Dp.opCells kind n vA St which).length = 5) := rfl
   have HON : Hid (∀ v ∈ Dp.opCells kind n vA St which, v.oneCell' = true) := by
    intro v hv
    simp only [Dp.opCells, List.mem_cons, List.not_mem_nil, or_false] at hv
    rcases hv with rfl | rfl | rfl | rfl | rfl <;> first | rfl | exact hone
   clear hone
   go_wp2_with (refine Dp.wpList_alloc_row rfl 40 rfl _ zeroOp ?_)
   intro w1 r1 z1 k1
   have HR1 := Hid.mk_ (Dp.row_nil r1)
   go_wp2_with (refine Dp.wpList_store_in rfl 40 _ _ rfl wr.heap.size 0 rfl (Dp.opCells kind n vA St which) rfl 40 [] _ [] HR1.out rfl rfl sizeOp HON.out ?_)
   intro w2 r2 z2 k2
   have r2' : Dp.Row w2 wr.heap.size 40 (Dp.opCells kind n vA St which) := by simpa using r2
   have k12 : Dp.Keeps (fun _ => False) wr w2 := k1.next k2 (fun q hq e => by omega)
   have HS2 := Hid.mk_ (HS.out.still k12)
   have HK2 : Hid (Dp.Keeps (fun k => B ≤ k) w w2) := HK.out.next k12 (fun _ _ e => e.elim)
   obtain ⟨o0, _, _, _, o4⟩ := r2'.ops
   have HR2 := Hid.mk_ (Dp.row_nil r2')
   clear r1 r2 r2' HR1 k1 k2 k12 z1 z2 e0 e1 e2 e3 e4 HON HS HK
   by_cases hkd : most < kind
   ·go_wp2
    go_roundw
    case rel => exact ⟨k + 1, L', ms', by omega, by go_num, HS2, Dp.LSt.sz_mono HZ.out (by omega), HK2⟩
    case measure => simp [intOf]; omega
   ·have hst := HW0.out HS2.out
    have HCALL : Hid (∀ i (hi : i < ds.length), Calls Tryz.prog 32 #[.pointer (some ⟨W, 0, none⟩), .pointer (some ⟨ds[i].s, 0, none⟩), .agg (Dp.opCells kind n vA St which).toArray] w2 fun e w'' => e = .returned (.bool true) ∧ ∃ L'' ms'', Dp.PlaySt B w'' W ds ms'' L'' sg scap ∧ L''.sz (c + k + 1) ∧ Dp.Keeps (fun k => B ≤ k) w w'') := by
     intro i hi
     refine (HST.out w2 ds[i] (ms' i) L' (c + k) ⟨kind, n, vA, St, which⟩ (HPO.out w2 HK2.out) HS2.out.lists (HS2.out.sides i hi) (HS2.out.apF i hi) HZ.out (by omega) (HE.out w2 HK2.out) (by have := HS2.out.lowS i hi ds[i].p (.inr (.inl rfl)); omega) (by show kind ≤ most; omega)).mono ?_
     rintro e w' ⟨he, hl⟩
     obtain ⟨L'', ms'', h1, h2, h3⟩ := HS2.out.left i hi hl
     exact ⟨he, L'', ms'', h1, h2, HK2.out.trans h3⟩
    have HFIN : Hid (∀ {w3 : World} {L'' : Dp.LSt} {ms'' : Nat → Dp.Mach}, Dp.PlaySt B w3 W ds ms'' L'' sg scap → L''.sz (c + k + 1) → Dp.KeptOk w3 W L''.v0 L''.v1 L''.v2 L''.v3 L''.v4 L''.v5) := fun h1 h2 => Dp.LSt.kept h1.lists h2 (by omega)
    cases which with
    | true =>
     have hnl : nn < ds.length := by rw [HNN.out]; omega
     have hsc := HS2.out.cells nn hnl
     have hsc0 := HS2.out.cells 0 (by omega)
     have hcall := Hid.mk_ (HCALL.out nn hnl)
     generalize ds[nn].s = sX at *
     generalize ds[0].s = sY at *
     go_wp2_with (refine Dp.wpList_load_in rfl 40 _ rfl wr.heap.size 0 rfl 40 [] _ _ HR2.out rfl _ Tryz.underlying40 rfl sizeOp ?_; intro _)
     refine hcall.out.mono ?_
     rintro e w3 ⟨rfl, L3, ms3, h3, z3, k3⟩
     have HS3 := Hid.mk_ h3
     have HZ3 := Hid.mk_ z3
     have HK3 := Hid.mk_ k3
     have HKO := Hid.mk_ (HFIN.out h3 z3)
     clear hst hsc hsc0 o0 o4 h3 z3 k3
     go_wp2_with fail
     refine (lawKept w3 W _ _ _ _ _ _ HKO.out.row HKO.out.l1 HKO.out.l2 HKO.out.l3 HKO.out.l4 HKO.out.l5).mono ?_
     rintro e w4 ⟨rfl, nq, rfl⟩
     have HK4 : Hid (Dp.Keeps (fun k => B ≤ k) w (w3.drewN nq)) := HK3.out.drewN nq
     have HS4 := Hid.mk_ (HS3.out.still ((Dp.Keeps.refl (fun _ => False) w3).drewN nq))
     go_wp2
     go_roundw
     case rel => exact ⟨k + 1, L3, ms3, by omega, by go_num, HS4, HZ3, HK4⟩
     case measure => simp [intOf]; omega
    | false =>
     have hnl : 0 < ds.length := by rw [HNN.out]; omega
     have hsc0 := HS2.out.cells 0 hnl
     have hcall := Hid.mk_ (HCALL.out 0 hnl)
     generalize ds[0].s = sY at *
     go_wp2_with (refine Dp.wpList_load_in rfl 40 _ rfl wr.heap.size 0 rfl 40 [] _ _ HR2.out rfl _ Tryz.underlying40 rfl sizeOp ?_; intro _)
     refine hcall.out.mono ?_
     rintro e w3 ⟨rfl, L3, ms3, h3, z3, k3⟩
     have HS3 := Hid.mk_ h3
     have HZ3 := Hid.mk_ z3
     have HK3 := Hid.mk_ k3
     have HKO := Hid.mk_ (HFIN.out h3 z3)
     clear hst hsc0 o0 o4 h3 z3 k3
     go_wp2_with fail
     refine (lawKept w3 W _ _ _ _ _ _ HKO.out.row HKO.out.l1 HKO.out.l2 HKO.out.l3 HKO.out.l4 HKO.out.l5).mono ?_
     rintro e w4 ⟨rfl, nq, rfl⟩
     have HK4 : Hid (Dp.Keeps (fun k => B ≤ k) w (w3.drewN nq)) := HK3.out.drewN nq
     have HS4 := Hid.mk_ (HS3.out.still ((Dp.Keeps.refl (fun _ => False) w3).drewN nq))
     go_wp2
     go_roundw
     case rel => exact ⟨k + 1, L3, ms3, by omega, by go_num, HS4, HZ3, HK4⟩
     case measure => simp [intOf]; omega
  ·go_wp2
   go_loopw [13, 14] (fun i _ wr => ∃ (q : Nat) (L' : Dp.LSt) (ms' : Nat → Dp.Mach), q ≤ nn + 1 ∧ i = .int .i64 q ∧ Hid (Dp.PlaySt B wr W ds ms' L' sg scap) ∧ Hid (L'.sz (c + k + 2 * q)) ∧ Hid (Dp.Keeps (fun k => B ≤ k) w wr)) (fun i _ _ => nn + 1 - (intOf i).toNat)
   case atStart => exact ⟨0, L', ms', Nat.zero_le _, rfl, HS, HZ, HK⟩
   case round =>
    clear HS HZ HK
    obtain ⟨q, L1, ms1, hq, rfl, HS, HZ, HK⟩ := hrel
    by_cases hlt1 : q < nn + 1
    ·have hql : q < ds.length := by rw [HNN.out]; exact hlt1
     have hst := HW0.out HS.out
     have hsc := HS.out.cells q hql
     have HC1 : Hid (Calls Tryz.prog 34 #[.pointer (some ⟨W, 0, none⟩), .pointer (some ⟨ds[q].s, 0, none⟩)] wr fun e w' => e = .returned (.bool true) ∧ ∃ L'' ms'', Dp.PlaySt B w' W ds ms'' L'' sg scap ∧ L''.sz (c + k + 2 * q + 1) ∧ Dp.Keeps (fun k => B ≤ k) w w') := by
      refine (lawEndedA wr W ds[q] (ms1 q) L1 (c + k + 2 * q) HS.out.lists (HS.out.sides q hql) (HS.out.apF q hql) HZ.out).mono ?_
      rintro e w' ⟨he, hl⟩
      obtain ⟨L'', ms'', h1, h2, h3⟩ := HS.out.left q hql hl
      exact ⟨he, L'', ms'', h1, h2, HK.out.trans h3⟩
     have HC2 : Hid (∀ (w3 : World) (L3 : Dp.LSt) (ms3 : Nat → Dp.Mach), Dp.PlaySt B w3 W ds ms3 L3 sg scap → L3.sz (c + k + 2 * q + 1) → Dp.Keeps (fun k => B ≤ k) w w3 → Calls Tryz.prog 32 #[.pointer (some ⟨W, 0, none⟩), .pointer (some ⟨ds[q].s, 0, none⟩), .agg (Dp.opCells 6 0 (.slice none 0 0) ⟨#[]⟩ false).toArray] w3 fun e w' => e = .returned (.bool true) ∧ ∃ L'' ms'', Dp.PlaySt B w' W ds ms'' L'' sg scap ∧ L''.sz (c + k + 2 * (q + 1)) ∧ Dp.Keeps (fun k => B ≤ k) w w') := by
      intro w3 L3 ms3 h3 z3 k3
      refine (lawStep6 w3 W ds[q] (ms3 q) L3 (c + k + 2 * q + 1) 6 0 (.slice none 0 0) ⟨#[]⟩ false h3.lists (h3.sides q hql) (h3.apF q hql) z3 (by omega) rfl).mono ?_
      rintro e w' ⟨he, hl⟩
      obtain ⟨L'', ms'', h1, h2, h4⟩ := h3.left q hql hl
      exact ⟨he, L'', ms'', h1, h2, k3.trans h4⟩
     have HCL : Hid (∀ {w3 : World} {ms3 : Nat → Dp.Mach} {L3 : Dp.LSt}, Dp.PlaySt B w3 W ds ms3 L3 sg scap → w3.cell? ⟨sg, q, none⟩ = some (.pointer (some ⟨ds[q].s, 0, none⟩))) := fun h3 => h3.cells q hql
     generalize ds[q].s = sX at *
     clear HS HZ HK
     go_wp2_with fail
     refine HC1.out.mono ?_
     rintro e w3 ⟨rfl, L3, ms3, h3, z3, k3⟩
     clear hst hsc HC1
     have hst := HW0.out h3
     have hsc := HCL.out h3
     have HC3 := Hid.mk_ (HC2.out w3 L3 ms3 h3 z3 k3)
     clear h3 z3 k3
     go_wp2_with fail
     refine HC3.out.mono ?_
     rintro e w4 ⟨rfl, L4, ms4, h4, z4, k4⟩
     have HS4 := Hid.mk_ h4
     have HZ4 := Hid.mk_ z4
     have HK4 := Hid.mk_ k4
     clear hst hsc h4 z4 k4
     go_wp2
     go_roundw
     case rel => exact ⟨q + 1, L4, ms4, by omega, by go_num, HS4, HZ4, HK4⟩
     case measure => simp [intOf]; omega
    ·have HKO := Hid.mk_ (Dp.LSt.kept HS.out.lists HZ.out (by omega))
     go_wp2_with fail
     refine (lawKept wr W _ _ _ _ _ _ HKO.out.row HKO.out.l1 HKO.out.l2 HKO.out.l3 HKO.out.l4 HKO.out.l5).mono ?_
     rintro e w4 ⟨rfl, nq, rfl⟩
     have HK4 := Hid.mk_ (HK.out.drewN nq)
     go_wp2
     go_ret
     exact ⟨rfl, HK4.out⟩
namespace Dp
def ptr (d : Sd) : Value := .pointer (some ⟨d.s, 0, none⟩)
structure OpenSt (B : Nat) (w : World) (W : Nat) (ds : List Sd) (ms : Nat → Mach) (L : LSt) : Prop where
 lists : L.at w W
 own0 : Own w 71 L.v0 (ds.map ptr)
 sides : ∀ i (h : i < ds.length), ds[i].at w (ms i)
 apF : ∀ i (h : i < ds.length), ∀ k, L.F W k → ¬ ds[i].In k
 apS : ∀ i j (hi : i < ds.length) (hj : j < ds.length), i ≠ j → ∀ k, ds[i].foot k → ¬ ds[j].In k
 sgF : ∀ q, L.v0.ownBlock = some q → ¬ L.F W q
 sgS : ∀ q, L.v0.ownBlock = some q → ∀ i (h : i < ds.length), ¬ ds[i].In q
 lowF : ∀ k, L.F W k → B ≤ k
 lowS : ∀ i (h : i < ds.length), ∀ k, ds[i].foot k → B ≤ k
 low0 : ∀ q, L.v0.ownBlock = some q → B ≤ q
theorem OpenSt.new {B : Nat} {w : World} {W : Nat} (hr : Row w W 32 [nilV, nilV, nilV, nilV, nilV, nilV]) (hB : B ≤ W) (m : Mach) : OpenSt B w W [] (fun _ => m) ⟨fun _ => False, nilV, nilV, nilV, nilV, nilV, nilV, [], [], [], [], []⟩ := by
 have hno : ∀ q, ¬ nilV.ownBlock = some q := fun q e => by simp [nilV, Value.ownBlock] at e
 have hout : ∀ q, ¬ outs nilV nilV nilV nilV nilV q := fun q e => by rcases e with e | e | e | e | e <;> exact hno q e
 refine ⟨⟨hr, LL.nil _ _ _ _, LL.nil _ _ _ _, LL.nil _ _ _ _, LL.nil _ _ _ _, ⟨Own.nil _ _, fun i h => absurd h (by simp)⟩, fun e => e, fun k _ e => e, fun k e => e.elim, fun k e => absurd e (hno k), rfl⟩, Own.nil _ _, fun i h => absurd h (by simp), fun i h => absurd h (by simp), fun i j h => absurd h (by simp), fun q e => absurd e (hno q), fun q e => absurd e (hno q), fun k e => ?_, fun i h => absurd h (by simp), fun q e => absurd e (hno q)⟩
 rcases e with e | e | e
 ·omega
 ·exact e.elim
 ·exact absurd e (hout k)
theorem OpenSt.play {B : Nat} {w : World} {W : Nat} {ds : List Sd} {ms : Nat → Mach} {L : LSt} (h : OpenSt B w W ds ms L) (hd : ds ≠ []) : ∃ sg scap, PlaySt B w W ds ms L sg scap := by
 rcases h.own0 with ⟨_, hx⟩ | ⟨sg, tail, hv, hr, _⟩
 ·exact absurd (List.map_eq_nil_iff.1 hx) hd
 ·have hsg : L.v0.ownBlock = some sg := by rw [hv]; rfl
  refine ⟨sg, _, h.lists, by rw [hv, List.length_map], h.sides, fun i hi => ?_, h.apF, h.apS, h.sgF sg hsg, fun i hi e => h.sgS sg hsg i hi (Sd.footIn _ e), h.lowF, h.lowS⟩
  rw [hr.cell, List.getElem?_append_left (by simpa using hi)]
  simp [hi, ptr]
theorem own_marked {w : World} {e : TypeId} {v : Value} {xs : List Value} {t : Nat} (h : Own w e v xs) (hm : Marked w t) : ¬ v.ownBlock = some t := by
 intro hv
 rcases h with ⟨rfl, _⟩ | ⟨g, tail, rfl, hr, _⟩
 ·simp [Value.ownBlock] at hv
 ·simp [Value.ownBlock] at hv
  subst hv
  exact hm.ne hr rfl
def openL (L : LSt) (w : World) (n : Nat) (srcs : List (List UInt8)) (v0 v2 v3 v5 : Value) (bs ts : List Nat) : LSt :=
 ⟨fun k => L.T k ∨ k = w.heap.size + 1 ∨ k = w.heap.size + 2 ∨ k ∈ bs ∨ k ∈ ts, v0, L.v1, v2, v3, L.v4, v5, L.x1, L.x2 ++ lentL srcs bs, L.x3 ++ [.slice (some ⟨w.heap.size + 1, 0, none⟩) (n + 1) (n + 1)], L.x4, L.x5 ++ [.slice (some ⟨w.heap.size + 2, 0, none⟩) (srcs.length + 1) (srcs.length + 1)]⟩
section
variable {B : Nat} {w w' : World} {W : Nat} {ds : List Sd} {ms : Nat → Mach} {L : LSt} {n : Nat} {srcs : List (List UInt8)} {v0 v2 v3 v5 : Value} {bs ts : List Nat} {NN M6 : Nat}
theorem OpenSt.apart (h : OpenSt B w W ds ms L) : (∀ q, L.T q → ¬ (q = W ∨ L.v2.ownBlock = some q ∨ L.v3.ownBlock = some q ∨ L.v5.ownBlock = some q ∨ L.v0.ownBlock = some q)) ∧ (∀ i (hi : i < ds.length) q, ds[i].In q → ¬ (q = W ∨ L.v2.ownBlock = some q ∨ L.v3.ownBlock = some q ∨ L.v5.ownBlock = some q ∨ L.v0.ownBlock = some q)) ∧
  (∀ q, L.v1.ownBlock = some q ∨ L.v4.ownBlock = some q → ¬ (q = W ∨ L.v2.ownBlock = some q ∨ L.v3.ownBlock = some q ∨ L.v5.ownBlock = some q ∨ L.v0.ownBlock = some q)) ∧
  (∀ q, (q = W ∨ L.v2.ownBlock = some q ∨ L.v3.ownBlock = some q ∨ L.v5.ownBlock = some q ∨ L.v0.ownBlock = some q) → B ≤ q ∧ q < w.heap.size) := by
 have hl := h.lists
 refine ⟨fun q hq e => ?_, fun i hi q hq e => ?_, fun q hq e => ?_, fun q e => ?_⟩
 ·rcases e with e | e | e | e | e
  ·exact hl.tW (e ▸ hq)
  ·exact hl.tO q (.inr (.inl e)) hq
  ·exact hl.tO q (.inr (.inr (.inl e))) hq
  ·exact hl.tO q (.inr (.inr (.inr (.inr e)))) hq
  ·exact h.sgF q e (.inr (.inl hq))
 ·rcases e with e | e | e | e | e
  ·exact h.apF i hi q (.inl e) hq
  ·exact h.apF i hi q (.inr (.inr (.inr (.inl e)))) hq
  ·exact h.apF i hi q (.inr (.inr (.inr (.inr (.inl e))))) hq
  ·exact h.apF i hi q (.inr (.inr (.inr (.inr (.inr (.inr e)))))) hq
  ·exact h.sgS q e i hi hq
 ·rcases hq with hq | hq
  ·rcases e with e | e | e | e | e
   ·exact hl.notW q (.inl hq) e
   ·exact hl.v12 q hq e
   ·exact own_own hl.l1.own hl.l3.own (by decide) q hq e
   ·exact own_own hl.l1.own hl.l5.own (by decide) q hq e
   ·exact own_own hl.l1.own h.own0 (by decide) q hq e
  ·rcases e with e | e | e | e | e
   ·exact hl.notW q (.inr (.inr (.inr (.inl hq)))) e
   ·exact own_own hl.l4.own hl.l2.own (by decide) q hq e
   ·exact own_own hl.l4.own hl.l3.own (by decide) q hq e
   ·exact own_own hl.l4.own hl.l5.own (by decide) q hq e
   ·exact own_own hl.l4.own h.own0 (by decide) q hq e
 ·rcases e with e | e | e | e | e
  ·exact ⟨h.lowF q (.inl e), e ▸ hl.row.lt⟩
  ·exact ⟨h.lowF q (.inr (.inr (.inr (.inl e)))), hl.l2.own.lt q e⟩
  ·exact ⟨h.lowF q (.inr (.inr (.inr (.inr (.inl e))))), hl.l3.own.lt q e⟩
  ·exact ⟨h.lowF q (.inr (.inr (.inr (.inr (.inr (.inr e)))))), hl.l5.own.lt q e⟩
  ·exact ⟨h.low0 q e, h.own0.lt q e⟩
theorem OpenSt.lists' (h : OpenSt B w W ds ms L) (g : OpenG w w' W L.v0 L.v1 L.v2 L.v3 L.v4 L.v5 L.x2 L.x3 L.x5 n srcs v0 v2 v3 v5 bs ts NN M6) (hn : n ≤ 1048576) (hm : srcs.length ≤ 1048576) (hs : ∀ l ∈ srcs, l.length ≤ 1048576) : (openL L w n srcs v0 v2 v3 v5 bs ts).at w' W := by
 obtain ⟨aT, _, a14, _⟩ := h.apart
 have hl := h.lists
 have hop := g.op
 have hWl := hl.row.lt
 have hnn := g.nn
 have hin : ∀ q, L.T q → L.T q ∨ q = w.heap.size + 1 ∨ q = w.heap.size + 2 ∨ q ∈ bs ∨ q ∈ ts := fun q e => .inl e
 have hlen := lentL_length srcs bs (by rw [hop.hbl]; exact Nat.le_refl _)
 refine ⟨hop.row, hl.l1.keep g.keeps aT hin (fun q hq => a14 q (.inl hq)), hl.l2.snoc g.keeps aT hin hop.own2 (fun i hi => ?_), hl.l3.snoc g.keeps aT hin hop.own3 (fun i hi => ?_), hl.l4.keep g.keeps aT hin (fun q hq => a14 q (.inr hq)), hl.l5.snoc g.keeps aT hin hop.own5 ?_, ?_, ?_, ?_, ?_, hl.four⟩
 ·have hi2 : i < bs.length := by rw [hlen] at hi; exact hi
  have hi1 : i < srcs.length := by rw [← hop.hbl]; exact hi2
  have hg := lentL_get srcs bs i hi1 hi2
  rw [List.getElem?_eq_getElem hi] at hg
  rw [Option.some.inj hg]
  have hll := hs _ (List.getElem_mem hi1)
  exact ⟨_, row_sliceIn (hop.turned i hi1 hi2) _ _ (by omega) _ (fun k hk => by rw [List.getElem?_replicate, if_pos hk]) (.inr (.inr (.inr (.inl (List.getElem_mem hi2)))))⟩
 ·obtain rfl : i = 0 := by simpa using hi
  exact ⟨_, row_sliceIn hop.l _ _ (by omega) _ (fun k hk => by rw [List.getElem?_replicate, if_pos hk]) (.inr (.inl rfl))⟩
 ·refine ⟨srcs.length + 1, fun k => (turnL ts).getD k undef, row_sliceIn hop.s _ _ (by omega) _ (fun k hk => ?_) (.inr (.inr (.inl rfl))), fun k hk => ?_⟩
  ·have hk' : k < (turnL ts).length := by have := hop.htl; simp [turnL]; omega
   show _ = some ((turnL ts).getD k undef)
   rw [List.getD_eq_getElem?_getD, List.getElem?_eq_getElem hk']
   rfl
  ·have hk' : k < ts.length := by have := hop.htl; omega
   refine ⟨ts[k], 6, ?_, .inr (.inr (.inr (.inr (List.getElem_mem hk')))), hop.marks _ (List.getElem_mem hk')⟩
   show (turnL ts).getD k undef = _
   rw [List.getD_eq_getElem?_getD]; simp [turnL, hk']
 ·rintro (e | e | e | e | e)
  ·exact hl.tW e
  ·omega
  ·omega
  ·have := (g.bsl W e).1; omega
  ·have := g.tsl W e; omega
 ·intro q hq e
  have hz : (q < w.heap.size ∧ outs L.v1 L.v2 L.v3 L.v4 L.v5 q) ∨ (M6 ≤ q ∧ (v2.ownBlock = some q ∨ v3.ownBlock = some q ∨ v5.ownBlock = some q)) := by
   rcases hq with hq | hq | hq | hq | hq
   ·exact .inl ⟨hl.l1.own.lt q hq, .inl hq⟩
   ·rcases g.f2 q hq with h2 | h2
    ·exact .inr ⟨h2, .inl hq⟩
    ·exact .inl ⟨hl.l2.own.lt q h2, .inr (.inl h2)⟩
   ·rcases g.f3 q hq with h2 | h2
    ·exact .inr ⟨h2, .inr (.inl hq)⟩
    ·exact .inl ⟨hl.l3.own.lt q h2, .inr (.inr (.inl h2))⟩
   ·exact .inl ⟨hl.l4.own.lt q hq, .inr (.inr (.inr (.inl hq)))⟩
   ·rcases g.f5 q hq with h2 | h2
    ·exact .inr ⟨h2, .inr (.inr hq)⟩
    ·exact .inl ⟨hl.l5.own.lt q h2, .inr (.inr (.inr (.inr h2)))⟩
  rcases hz with ⟨h1, h2⟩ | ⟨h1, h2⟩
  ·rcases e with e | e | e | e | e
   ·exact hl.tO q h2 e
   ·omega
   ·omega
   ·have := (g.bsl q e).1; omega
   ·have := g.tsl q e; omega
  ·rcases e with e | e | e | e | e
   ·have := hl.tlt q e; omega
   ·omega
   ·omega
   ·have := (g.bsl q e).2; omega
   ·have hmk := hop.marks q e
    rcases h2 with h2 | h2 | h2
    ·exact own_marked hop.own2 hmk h2
    ·exact own_marked hop.own3 hmk h2
    ·exact own_marked hop.own5 hmk h2
 ·rintro q (e | e | e | e | e)
  ·exact Nat.lt_of_lt_of_le (hl.tlt q e) g.keeps.size
  ·exact e ▸ hop.l.lt
  ·exact e ▸ hop.s.lt
  ·obtain ⟨i, hi, rfl⟩ := List.getElem_of_mem e
   exact (hop.turned i (by rw [← hop.hbl]; exact hi) hi).lt
  ·exact (Array.getElem?_eq_some_iff.1 (hop.marks q e)).1
 ·intro q hq h2
  rcases g.f2 q h2 with h3 | h3
  ·have := hl.l1.own.lt q hq; omega
  ·exact hl.v12 q hq h3
theorem OpenSt.zone (h : OpenSt B w W ds ms L) (g : OpenG w w' W L.v0 L.v1 L.v2 L.v3 L.v4 L.v5 L.x2 L.x3 L.x5 n srcs v0 v2 v3 v5 bs ts NN M6) : ∀ k, (openL L w n srcs v0 v2 v3 v5 bs ts).F W k → (L.F W k ∧ k < w.heap.size) ∨ (w.heap.size ≤ k ∧ k < NN) ∨ (M6 ≤ k ∧ (k ∈ ts ∨ v2.ownBlock = some k ∨ v3.ownBlock = some k ∨ v5.ownBlock = some k)) := by
 have hl := h.lists
 have hnn := g.nn
 rintro k (e | (e | e | e | e | e) | e | e | e | e | e)
 ·exact .inl ⟨.inl e, e ▸ hl.row.lt⟩
 ·exact .inl ⟨.inr (.inl e), hl.tlt k e⟩
 ·exact .inr (.inl (by omega))
 ·exact .inr (.inl (by omega))
 ·have := g.bsl k e; exact .inr (.inl (by omega))
 ·exact .inr (.inr ⟨g.tsl k e, .inl e⟩)
 ·exact .inl ⟨.inr (.inr (.inl e)), hl.l1.own.lt k e⟩
 ·rcases g.f2 k e with h2 | h2
  ·exact .inr (.inr ⟨h2, .inr (.inl e)⟩)
  ·exact .inl ⟨.inr (.inr (.inr (.inl h2))), hl.l2.own.lt k h2⟩
 ·rcases g.f3 k e with h2 | h2
  ·exact .inr (.inr ⟨h2, .inr (.inr (.inl e))⟩)
  ·exact .inl ⟨.inr (.inr (.inr (.inr (.inl h2)))), hl.l3.own.lt k h2⟩
 ·exact .inl ⟨.inr (.inr (.inr (.inr (.inr (.inl e))))), hl.l4.own.lt k e⟩
 ·rcases g.f5 k e with h2 | h2
  ·exact .inr (.inr ⟨h2, .inr (.inr (.inr e))⟩)
  ·exact .inl ⟨.inr (.inr (.inr (.inr (.inr (.inr h2))))), hl.l5.own.lt k h2⟩
theorem OpenSt.without (h : OpenSt B w W ds ms L) (g : OpenG w w' W L.v0 L.v1 L.v2 L.v3 L.v4 L.v5 L.x2 L.x3 L.x5 n srcs L.v0 v2 v3 v5 bs ts NN M6) (hn : n ≤ 1048576) (hm : srcs.length ≤ 1048576) (hs : ∀ l ∈ srcs, l.length ≤ 1048576) (ho : Own w' 71 L.v0 (ds.map ptr)) : OpenSt B w' W ds ms (openL L w n srcs L.v0 v2 v3 v5 bs ts) := by
 obtain ⟨_, aS, _, aB⟩ := h.apart
 have hz := h.zone g
 have hnn := g.nn
 have hWB := aB W (.inl rfl)
 refine ⟨h.lists' g hn hm hs, ho, fun i hi => Sd.keep (h.sides i hi) g.keeps (aS i hi), fun i hi k hk e => ?_, h.apS, fun q hq e => ?_, h.sgS, fun k hk => ?_, h.lowS, h.low0⟩
 ·have hlt := Sd.lt (h.sides i hi) k e
  rcases hz k hk with h1 | h1 | h1
  ·exact h.apF i hi k h1.1 e
  ·omega
  ·omega
 ·have hlt := h.own0.lt q hq
  rcases hz q e with h1 | h1 | h1
  ·exact h.sgF q hq h1.1
  ·omega
  ·omega
 ·rcases hz k hk with h1 | h1 | h1
  ·exact h.lowF k h1.1
  ·omega
  ·omega
theorem OpenSt.with_ (h : OpenSt B w W ds ms L) (g : OpenG w w' W L.v0 L.v1 L.v2 L.v3 L.v4 L.v5 L.x2 L.x3 L.x5 n srcs v0 v2 v3 v5 bs ts NN M6) (hn : n ≤ 1048576) (hm : srcs.length ≤ 1048576) (hs : ∀ l ∈ srcs, l.length ≤ 1048576) {s b p g' : Nat} {G : Nat → Prop} {vs vr : Value} {m : Mach} (hg : MadeG w' L.v0 v0 (ds.map ptr) NN M6 s b p g' G vs vr m) :
  OpenSt B w' W (ds ++ [⟨s, b, p, g', G, vs, vr⟩]) (fun i => if i = ds.length then m else ms i) (openL L w n srcs v0 v2 v3 v5 bs ts) := by
 obtain ⟨_, aS, _, aB⟩ := h.apart
 have hz := h.zone g
 have hnn := g.nn
 have hWB := aB W (.inl rfl)
 obtain ⟨hsd, hown, hf0, hsM, hbk⟩ := hg
 have hop := g.op
 have hInNew : ∀ k, Sd.In ⟨s, b, p, g', G, vs, vr⟩ k → (k = s ∧ M6 ≤ k) ∨ (NN ≤ k ∧ k < M6) := by
  rintro k (e | e)
  ·exact .inl ⟨e, e ▸ hsM⟩
  ·exact .inr (hbk k e)
 have hcase : ∀ i, i < (ds ++ [(⟨s, b, p, g', G, vs, vr⟩ : Sd)]).length → i < ds.length ∨ i = ds.length := fun i hi => by rw [List.length_append, List.length_singleton] at hi; omega
 have hgl : ∀ i (hi : i < ds.length) (hi2 : i < (ds ++ [(⟨s, b, p, g', G, vs, vr⟩ : Sd)]).length), (ds ++ [(⟨s, b, p, g', G, vs, vr⟩ : Sd)])[i] = ds[i] := fun i hi _ => List.getElem_append_left hi
 have hgr : ∀ (hi2 : ds.length < (ds ++ [(⟨s, b, p, g', G, vs, vr⟩ : Sd)]).length), (ds ++ [(⟨s, b, p, g', G, vs, vr⟩ : Sd)])[ds.length] = ⟨s, b, p, g', G, vs, vr⟩ := fun hi2 => by rw [List.getElem_append_right (Nat.le_refl _)]; simp
 have hsrow := hsd.row
 have hT : ∀ k, M6 ≤ k → (k ∈ ts ∨ v2.ownBlock = some k ∨ v3.ownBlock = some k ∨ v5.ownBlock = some k) → k ≠ s := by
  rintro k hk (e | e | e | e)
  ·exact (hop.marks k e).ne hsrow
  ·exact hop.own2.ne hsrow (by decide) k e
  ·exact hop.own3.ne hsrow (by decide) k e
  ·exact hop.own5.ne hsrow (by decide) k e
 refine ⟨h.lists' g hn hm hs, by rw [List.map_append]; exact hown, fun i hi => ?_, fun i hi k hk e => ?_, fun i j hi hj hne k hk e => ?_, fun q hq e => ?_, fun q hq i hi e => ?_, fun k hk => ?_, fun i hi k hk => ?_, fun q hq => ?_⟩
 ·rcases hcase i hi with h1 | rfl
  ·rw [hgl i h1, if_neg (by omega)]
   exact Sd.keep (h.sides i h1) g.keeps (aS i h1)
  ·rw [hgr, if_pos rfl]; exact hsd
 ·rcases hcase i hi with h1 | rfl
  ·rw [hgl i h1] at e
   have hlt := Sd.lt (h.sides i h1) k e
   rcases hz k hk with h2 | h2 | h2
   ·exact h.apF i h1 k h2.1 e
   ·omega
   ·omega
  ·rw [hgr] at e
   rcases hInNew k e with h1 | h1
   ·rcases hz k hk with h2 | h2 | h2
    ·omega
    ·omega
    ·exact hT k h2.1 h2.2 h1.1
   ·rcases hz k hk with h2 | h2 | h2
    ·omega
    ·omega
    ·omega
 ·rcases hcase i hi with h1 | rfl
  ·rw [hgl i h1] at hk
   rcases hcase j hj with h2 | rfl
   ·rw [hgl j h2] at e
    exact h.apS i j h1 h2 hne k hk e
   ·rw [hgr] at e
    have hlt := Sd.lt (h.sides i h1) k (Sd.footIn _ hk)
    rcases hInNew k e with h3 | h3 <;> omega
  ·rw [hgr] at hk
   rcases hcase j hj with h2 | rfl
   ·rw [hgl j h2] at e
    have hlt := Sd.lt (h.sides j h2) k e
    rcases hInNew k (Sd.footIn _ hk) with h3 | h3 <;> omega
   ·exact hne rfl
 ·rcases hf0 q hq with h1 | h1
  ·rcases hz q e with h2 | h2 | h2
   ·omega
   ·omega
   ·rcases h2.2 with h3 | h3 | h3 | h3
    ·exact own_marked hown (hop.marks q h3) hq
    ·exact own_own hown hop.own2 (by decide) q hq h3
    ·exact own_own hown hop.own3 (by decide) q hq h3
    ·exact own_own hown hop.own5 (by decide) q hq h3
  ·have hlt := h.own0.lt q h1
   rcases hz q e with h2 | h2 | h2
   ·exact h.sgF q h1 h2.1
   ·omega
   ·omega
 ·rcases hcase i hi with h1 | rfl
  ·rw [hgl i h1] at e
   have hlt := Sd.lt (h.sides i h1) q e
   rcases hf0 q hq with h2 | h2
   ·omega
   ·exact h.sgS q h2 i h1 e
  ·rw [hgr] at e
   rcases hInNew q e with h1 | h1
   ·exact hown.ne hsrow (by decide) q hq h1.1
   ·rcases hf0 q hq with h2 | h2
    ·omega
    ·have hlt := h.own0.lt q h2; omega
 ·rcases hz k hk with h1 | h1 | h1
  ·exact h.lowF k h1.1
  ·omega
  ·omega
 ·rcases hcase i hi with h1 | rfl
  ·rw [hgl i h1] at hk
   exact h.lowS i h1 k hk
  ·rw [hgr] at hk
   rcases hInNew k (Sd.footIn _ hk) with h3 | h3 <;> omega
 ·rcases hf0 q hq with h1 | h1
  ·omega
  ·exact h.low0 q h1
end
def LSt.few (L : LSt) (a b c : Nat) : Prop := L.x1 = [] ∧ L.x4 = [] ∧ L.x2.length ≤ a ∧ L.x3.length ≤ b ∧ L.x5.length ≤ c
end Dp
theorem lawOpensA (B : Nat) (w : World) (W : Nat) (ds : List Dp.Sd) (ms : Nat → Dp.Mach) (L : Dp.LSt) (a c : Nat) (vW vT : Value) (words : List Int) (srcs : List (List UInt8)) (h : Dp.OpenSt B w W ds ms L) (hf : L.few a c c) (ha : a ≤ 1500000) (hc : c ≤ 10) (hd : ds.length ≤ 10) (hW : Dp.Ints w vW words) (hT : Dp.Texts w vT srcs) (h64 : ∀ x ∈ words, -9223372036854775808 ≤ x ∧ x ≤ 9223372036854775807) (hBT : srcs ≠ [] → ∀ b o n c, vT = Value.slice (some ⟨b, o, none⟩) n c → b < B) :
  Calls Tryz.prog 13 #[.pointer (some ⟨W, 0, none⟩), .agg #[vW, vT]] w fun e w' => e = .returned (.bool true) ∧ Dp.Keeps (fun k => B ≤ k) w w' ∧ ∃ ds' ms' L', Dp.OpenSt B w' W ds' ms' L' ∧ ds'.length ≤ ds.length + 1 ∧ Dp.LSt.few L' (a + srcs.length) (c + 1) (c + 1) := by
 have hl := h.lists
 obtain ⟨f1, f4, f2, f3, f5⟩ := hf
 have hI := hW
 have hTx := hT
 obtain ⟨_, _, _, _, _, hwl, _⟩ := hI
 obtain ⟨_, _, _, _, _, htl, _, htc⟩ := hTx
 have hsl : ∀ l ∈ srcs, l.length ≤ 1048576 := fun l hl => by obtain ⟨i, hi, rfl⟩ := List.getElem_of_mem hl; exact (htc i hi).1
 refine (lawOpensG w W L.v0 L.v1 L.v2 L.v3 L.v4 L.v5 (ds.map Dp.ptr) L.x2 L.x3 L.x5 vW vT words srcs hW hT h64 hl.row h.own0 hl.l2.own hl.l3.own hl.l5.own ⟨by rw [List.length_map]; omega, by omega, by omega, by omega⟩ (fun hne b o n c e => ⟨fun e' => by have := hBT hne b o n c e; have := h.lowF W (.inl rfl); omega, fun hq => by have := hBT hne b o n c e; have := h.lowF b (.inr (.inr (.inr (.inl hq)))); omega⟩)).mono ?_
 rintro e w' ⟨he, v0, v2, v3, v5, bs, ts, NN, M6, g, hcase⟩
 obtain ⟨_, _, _, aB⟩ := h.apart
 have hlen := Dp.lentL_length srcs bs (by rw [g.op.hbl]; exact Nat.le_refl _)
 have hfew : Dp.LSt.few (Dp.openL L w words.length srcs v0 v2 v3 v5 bs ts) (a + srcs.length) (c + 1) (c + 1) := by
  refine ⟨f1, f4, ?_, ?_, ?_⟩
  ·show (L.x2 ++ _).length ≤ _
   rw [List.length_append, hlen, g.op.hbl]; omega
  ·show (L.x3 ++ _).length ≤ _
   rw [List.length_append, List.length_singleton]; omega
  ·show (L.x5 ++ _).length ≤ _
   rw [List.length_append, List.length_singleton]; omega
 refine ⟨he, g.keeps.mono (fun k _ e => (aB k e).1), ?_⟩
 rcases hcase with ⟨_, rfl, ho⟩ | ⟨_, s, b, p, g', G, vs, vr, hm⟩
 ·exact ⟨ds, ms, _, h.without g hwl htl hsl ho, by omega, hfew⟩
 ·exact ⟨_, _, _, h.with_ g hwl htl hsl hm, by simp, hfew⟩
end Go.Proofs.YtdipojfngdceoaaGreatDoor
