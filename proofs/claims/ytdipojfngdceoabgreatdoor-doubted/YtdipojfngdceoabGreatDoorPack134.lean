/- Steps on the way: ProgProofs4, ProgCutLabel. -/
import Derived.Test.YtdipojfngdceoabGreatDoorPack133
import Derived.Test.YtdipojfngdceoabGreatDoorPack70
import Derived.Test.YtdipojfngdceoabGreatDoorPack75
import Derived.Test.YtdipojfngdceoabGreatDoorPack76
/- The program's memory of proofs is a memory as a core reaches it. -/
namespace Go.Proofs.YtdipojfngdceoabGreatDoor
open Go.RowKit

theorem callPLoad (q : Nat) (n : Value) (wx : World) : (callMethod (.iface 172 (.pointer (some ⟨q, 0, none⟩))) "Load" #[n]).run Tryz.prog wx = .ok (.enter 166 #[.pointer (some ⟨q, 0, none⟩), n]) wx := by kernel_rfl
theorem callPStore (q : Nat) (n v : Value) (wx : World) : (callMethod (.iface 172 (.pointer (some ⟨q, 0, none⟩))) "Store" #[n, v]).run Tryz.prog wx = .ok (.enter 168 #[.pointer (some ⟨q, 0, none⟩), n, v]) wx := by kernel_rfl
theorem callPSource (q : Nat) (n : Value) (wx : World) : (callMethod (.iface 172 (.pointer (some ⟨q, 0, none⟩))) "Source" #[n]).run Tryz.prog wx = .ok (.enter 167 #[.pointer (some ⟨q, 0, none⟩), n]) wx := by kernel_rfl

namespace Dp
theorem proofsOk (w0 wb : World) (pc q p : Nat) (eb : Addr) (L : Nat) (he : ErrAt w0 eb) (hpc : w0.heap.size ≤ pc) (hL : L ≤ 1000000) :
    MemOk Tryz.prog pc 172 (.pointer (some ⟨q, 0, none⟩)) proofsMemo (ProofsF q p) (ProofsInv w0 wb pc q p L) (ProofsInv w0 wb pc q p (L + 9)) (fun w' => Keeps (fun _ => False) w0 w') (wrong eb) where
  keep := fun h k => h.keep hpc k
  keep' := fun h k => (h.keep hpc k).1
  le := fun h => h.more
  foot := fun h hi => ⟨(h.foot hi).1, (h.foot hi).2.1⟩
  word := by
    intro w m n r h hn hr
    simp only [proofsMemo] at hr
    split at hr
    · simp only [Option.some.injEq] at hr; subst hr; simp [isWord]
    · split at hr
      · simp only [Option.some.injEq] at hr; subst hr
        exact numTo_bd m.rest 0 4 (Nat.le_refl _)
      · simp at hr
  load := fun w m n hn h => ⟨166, _, callPLoad q _, progPLoad w0 wb pc q p eb L n w m he h hL hn⟩
  store := fun w m n v hn hv h => ⟨168, _, callPStore q _ _, progPStore w0 wb pc q p eb L n v w m he h hpc hL hn hv⟩
  source := fun w m n _ h => ⟨167, _, callPSource q _, progPSource w0 wb pc q p eb L n w m he h hpc hL⟩
end Dp
end Go.Proofs.YtdipojfngdceoabGreatDoor

/- The program's label is cut off a witness. -/
namespace Go.Proofs.YtdipojfngdceoabGreatDoor
open Go.RowKit

namespace Dp
theorem stateCells_put (s : Cs) (k : Nat) (v : Int) : (stateCells s).set (4 + k) (.int .u32 v) = stateCells { s with regs := s.regs.set k v } := by
  unfold stateCells wordCells
  rw [List.set_append_right _ _ (by simp)]
  simp [List.map_set]
theorem stateCells_at (s : Cs) (hl : s.regs.length = 8) (k : Nat) (hk : k < 8) : (stateCells s)[4 + k]? = some (.int .u32 (s.regs.getD k 0)) := by
  unfold stateCells wordCells
  rw [List.getElem?_append_right (by simp)]
  simp [hl, hk]
/-- Whether there is a label. -/
def labelThere (l : List UInt8) : Option Unit := if 47 ≤ l.length ∧ (l.getD 12 0).toNat ≤ 1 then some () else none
theorem labelThere_neg {l : List UInt8} (h : ¬ (47 ≤ l.length ∧ (l.getD 12 0).toNat ≤ 1)) : labelThere l = none := if_neg h
theorem labelThere_pos {l : List UInt8} (h : 47 ≤ l.length ∧ (l.getD 12 0).toNat ≤ 1) : labelThere l = some () := if_pos h
theorem unregs_zero (l : List UInt8) : unregs l 0 = [0, 0, 0, 0, 0, 0, 0, 0] := rfl
end Dp
theorem zeroPState : (Tryz.prog.info? 79).map (fun i => i.zero) = some (some (.agg (Dp.stateCells ⟨0, 0, 0, false, [0, 0, 0, 0, 0, 0, 0, 0]⟩).toArray)) := by kernel_rfl
theorem runLoadPSt {w : World} {p : Nat} {e : TypeId} {s : Dp.Cs} (h : Dp.Row w p e (Dp.stateCells s)) (hl : s.regs.length = 8) : (Instr.loadAt 79 (.pointer (some ⟨p, 0, none⟩))).run Tryz.prog w = .ok (.agg (Dp.stateCells s).toArray) w :=
  run_loadAt_mid w p 0 79 _ _ (Dp.Row.range (pre := []) (post := []) (by simpa using h)) Tryz.underlying79 rfl (by rw [sizePState, Dp.stateCells_length _ hl])

set_option maxRecDepth 100000 in
set_option maxHeartbeats 1000000 in
theorem progCutLabel (w0 : World) (p : Nat) (eb : Addr) (l : List UInt8) (w : World) (he : Dp.ErrAt w0 eb) (h : Dp.PartsAt w0 p w l) :
    Calls Tryz.prog 97 #[.pointer (some ⟨p, 0, none⟩)] w fun e w' => Dp.after (Dp.labelThere l) (e = .panicked (Dp.wrong eb) ∧ Dp.Keeps (fun _ => False) w0 w') fun _ => e = .returned (.tuple #[.agg (Dp.stateCells (Dp.unlab l)).toArray, .int .i64 (Dp.unroot l)]) ∧ Dp.PartsAt w0 p w' (l.drop 47) ∧ Dp.Keeps (fun k => k = p) w w' := by
  have hplt : p < w.heap.size := by obtain ⟨v, hr, _⟩ := h.row; exact hr.lt
  have hw0 := h.new
  go_enter Tryz.func97, Tryz.ntmps97
  go_wp2_with (refine Dp.wpList_alloc_row rfl 79 rfl _ zeroPState ?_)
  intro w1 r1 z1 k1
  have hp1 := h.keep k1 (fun e => e) (fun _ _ e => e)
  clear h
  go_wp2_with fail
  refine (progQWord w0 p eb l _ he hp1).mono ?_
  intro e w2 h2
  by_cases h4 : 4 ≤ l.length
  case neg =>
    rw [if_neg h4, Dp.after_none] at h2
    obtain ⟨rfl, hk⟩ := h2
    exact ⟨rfl, by rw [Dp.labelThere_neg (by omega)]; exact ⟨rfl, hk⟩⟩
  rw [if_pos h4, Dp.after_some] at h2
  obtain ⟨rfl, hp2, k2, z2⟩ := h2
  go_wp2_with fail
  refine (progQWord w0 p eb _ _ he hp2).mono ?_
  intro e w3 h3
  have hd4 : (l.drop 4).length = l.length - 4 := List.length_drop
  by_cases h8 : 4 ≤ (l.drop 4).length
  case neg =>
    rw [if_neg h8, Dp.after_none] at h3
    obtain ⟨rfl, hk⟩ := h3
    exact ⟨rfl, by rw [Dp.labelThere_neg (by omega)]; exact ⟨rfl, hk⟩⟩
  rw [if_pos h8, Dp.after_some] at h3
  obtain ⟨rfl, hp3, k3, z3⟩ := h3
  rw [List.drop_drop] at hp3
  go_wp2_with fail
  refine (progQWord w0 p eb _ _ he hp3).mono ?_
  intro e w4 h4'
  have hd8 : (l.drop (4 + 4)).length = l.length - 8 := List.length_drop
  by_cases h12 : 4 ≤ (l.drop (4 + 4)).length
  case neg =>
    rw [if_neg h12, Dp.after_none] at h4'
    obtain ⟨rfl, hk⟩ := h4'
    exact ⟨rfl, by rw [Dp.labelThere_neg (by omega)]; exact ⟨rfl, hk⟩⟩
  rw [if_pos h12, Dp.after_some] at h4'
  obtain ⟨rfl, hp4, k4, z4⟩ := h4'
  rw [List.drop_drop] at hp4
  rw [Dp.numTo_drop, Dp.numTo_drop]
  have kk4 : Dp.Keeps (fun k => k = p) w w4 := (((k1.mono (fun _ _ e => e.elim)).trans k2).trans k3).trans k4
  have hne : ¬ w.heap.size = p := by omega
  have rr4 := ((r1.keep k2 hne).keep k3 hne).keep k4 hne
  have HP4 : Hid (Dp.PartsAt w0 p w4 (l.drop 12)) := hp4
  have HZ4 : Hid (w4.heap.size = w.heap.size + 1) := by unfold Hid; omega
  have HB0 := Hid.mk_ (Dp.numTo_bd l 0 4 (Nat.le_refl _))
  have HB1 := Hid.mk_ (Dp.numTo_bd l 4 4 (Nat.le_refl _))
  have HB2 := Hid.mk_ (Dp.numTo_bd l 8 4 (Nat.le_refl _))
  have HU : Hid (Dp.unlab l = ⟨Dp.numTo l 0 4, Dp.numTo l (4 + 0) 4, Dp.numTo l (4 + 4 + 0) 4, ((l.getD 12 0).toNat : Int) == 1, Dp.unregs l 8⟩) := by
    unfold Hid Dp.unlab; rw [Dp.unregs_all]
  clear k1 k2 k3 k4 r1 hp1 hp2 hp3 hp4 z2 z3 z4
  generalize Dp.numTo l 0 4 = a0 at *
  generalize Dp.numTo l (4 + 0) 4 = a1 at *
  generalize Dp.numTo l (4 + 4 + 0) 4 = a2 at *
  generalize hG : w4.heap.size = G at *
  have hbuild : ∀ wx, (Instr.build 79 #[(0, .int .u32 a0), (1, .int .u32 a1), (2, .int .u32 a2)]).run Tryz.prog wx = .ok (.agg (Dp.stateCells ⟨a0, a1, a2, false, [0, 0, 0, 0, 0, 0, 0, 0]⟩).toArray) wx := fun wx => by kernel_rfl
  go_wp2_with (refine Dp.wpList_alloc_row rfl 79 rfl _ zeroPState ?_)
  intro w5 r5 z5 k5
  have HR5 : Hid (Dp.Row w5 G 79 ([] ++ Dp.stateCells ⟨0, 0, 0, false, [0, 0, 0, 0, 0, 0, 0, 0]⟩ ++ [])) := by unfold Hid; rw [List.append_nil, List.nil_append]; first | exact r5 | (rw [← hG]; exact r5)
  go_wp2_with (refine Dp.wpList_store_in rfl 79 _ _ rfl G 0 rfl (Dp.stateCells ⟨a0, a1, a2, false, [0, 0, 0, 0, 0, 0, 0, 0]⟩) rfl 79 [] _ [] HR5.out rfl rfl (by rw [sizePState]; rfl) (Dp.stateCells_one _) ?_)
  intro w6 r6 z6 k6
  have hGp : ¬ p = G := by have := HZ4.out; omega
  have hGw : ¬ w.heap.size = G := by have := HZ4.out; omega
  have rg6 : Dp.Row w6 G 79 (Dp.stateCells ⟨a0, a1, a2, false, Dp.unregs l 0⟩) := by rw [Dp.unregs_zero]; simpa using r6
  have rr6 := (rr4.keep k5 (fun e => e)).keep k6 hGw
  have hp6 := (HP4.out.keep k5 (fun e => e) (fun _ _ e => e)).keep k6 hGp (fun i hi e => by have := HZ4.out; omega)
  have kk6 : Dp.Keeps (fun k => k = p) w w6 := (kk4.trans (k5.mono (fun _ _ e => e.elim))).next k6 (fun i hi e => by have := HZ4.out; omega)
  clear rr4 kk4 HP4 r5 k5 r6 k6 HR5 hbuild
  go_wp2_with fail
  refine (progQByte w0 p eb _ _ he hp6).mono ?_
  intro e w7 h7
  have hd12 : (l.drop 12).length = l.length - 12 := List.length_drop
  by_cases h13 : 1 ≤ (l.drop 12).length
  case neg =>
    rw [if_neg h13, Dp.after_none] at h7
    obtain ⟨rfl, rfl⟩ := h7
    exact ⟨rfl, by rw [Dp.labelThere_neg (by omega)]; exact ⟨rfl, hp6.kept⟩⟩
  rw [if_pos h13, Dp.after_some] at h7
  obtain ⟨rfl, hp7, k7, z7⟩ := h7
  rw [List.drop_drop] at hp7
  have e12 : (l.drop 12).getD 0 0 = l.getD 12 0 := by simp [List.getD_eq_getElem?_getD]
  rw [e12]
  have rg7 := rg6.keep k7 (fun e => hGp e.symm)
  have rr7 := rr6.keep k7 hne
  have kk7 := kk6.trans k7
  clear rg6 rr6 kk6 hp6 k7 z7 e12
  generalize hB : (l.getD 12 0) = B at *
  have hb8 : B.toNat < 256 := B.toNat_lt
  by_cases hb1 : B.toNat ≤ 1
  case neg =>
    have hg : decide ((B.toNat : Int) ≤ 1) = false := decide_eq_false (by omega)
    go_wp2_with fail
    with_reducible refine (progReqF _ eb _ (he.keep hp7.kept)).mono ?_
    rintro e w8 ⟨rfl, rfl⟩
    exact ⟨rfl, by rw [Dp.labelThere_neg (fun h => hb1 (by rw [← hB]; exact h.2))]; exact ⟨rfl, hp7.kept⟩⟩
  have hg : decide ((B.toNat : Int) ≤ 1) = true := decide_eq_true (by omega)
  go_wp2_with fail
  with_reducible refine (progReqT _ _).mono ?_
  rintro e w8 ⟨rfl, hww⟩
  subst w8
  have c3 : w7.cell? ⟨G, 3, none⟩ = some (.bool false) := rg7.cell 3
  have f3 := rg7.frozen 3
  have HR8 : Hid (Dp.Row (w7.setCell ⟨G, 3, none⟩ (.bool ((B.toNat : Int) == 1))) G 79 (Dp.stateCells ⟨a0, a1, a2, (B.toNat : Int) == 1, Dp.unregs l 0⟩)) := rg7.set 3 _
  have kset : Dp.Keeps (fun k => k = G) w7 (w7.setCell ⟨G, 3, none⟩ (.bool ((B.toNat : Int) == 1))) := Dp.Keeps.setCell (S := fun k => k = G) (p := ⟨G, 3, none⟩) (Dp.Keeps.refl _ _) (.inr rfl) _
  have HZ8 := Hid.mk_ (rr7.keep kset hGw)
  have HP8 := Hid.mk_ (hp7.keep kset hGp (fun i hi e => by have := HZ4.out; omega))
  have HK8 : Hid (Dp.Keeps (fun k => k = p) w (w7.setCell ⟨G, 3, none⟩ (.bool ((B.toNat : Int) == 1)))) := kk7.next kset (fun i hi e => by have := HZ4.out; omega)
  clear rg7 rr7 hp7 kk7 kset hg
  go_wp2
  generalize hW8 : w7.setCell ⟨G, 3, none⟩ (.bool ((B.toNat : Int) == 1)) = w8 at *
  clear hW8 c3 f3
  go_loopw [6, 23] (fun _ i wr => ∃ k : Nat, k ≤ 8 ∧ i = .int .i64 k ∧ 13 + 4 * k ≤ l.length ∧ Dp.PartsAt w0 p wr (l.drop (13 + 4 * k)) ∧ Dp.Row wr G 79 (Dp.stateCells ⟨a0, a1, a2, (B.toNat : Int) == 1, Dp.unregs l k⟩) ∧ Dp.Row wr w.heap.size 79 (Dp.stateCells ⟨0, 0, 0, false, [0, 0, 0, 0, 0, 0, 0, 0]⟩) ∧ Dp.Keeps (fun k => k = p) w wr) (fun _ i _ => 8 - (intOf i).toNat)
  case atStart => exact ⟨0, Nat.zero_le _, rfl, by omega, HP8.out, HR8.out, HZ8.out, HK8.out⟩
  case round =>
    obtain ⟨k, hk, rfl, hlk, hpk, rk, rzk, kkk⟩ := hrel
    clear HP8 HR8 HZ8 HK8
    by_cases hlt : k < 8
    · go_wp2_with fail
      refine (progQWord w0 p eb _ _ he hpk).mono ?_
      intro e w9 h9
      have hdl : (l.drop (13 + 4 * k)).length = l.length - (13 + 4 * k) := List.length_drop
      by_cases h6 : 4 ≤ (l.drop (13 + 4 * k)).length
      case neg =>
        rw [if_neg h6, Dp.after_none] at h9
        obtain ⟨rfl, hk9⟩ := h9
        exact ⟨rfl, by rw [Dp.labelThere_neg (by omega)]; exact ⟨rfl, hk9⟩⟩
      rw [if_pos h6, Dp.after_some] at h9
      obtain ⟨rfl, hp9, k9, z9⟩ := h9
      rw [List.drop_drop] at hp9
      have HN : Hid (Dp.numTo (l.drop (13 + 4 * k)) 0 4 = Dp.unreg l k) := Dp.numTo_drop _ _ _ _
      have HPU : Hid ((Dp.unregs l k).set k (Dp.unreg l k) = Dp.unregs l (k + 1)) := Dp.unregs_put l k hlt
      have HLN : Hid ((Dp.unregs l k).length = 8) := Dp.unregs_length l k hk
      have r9 := rk.keep k9 (fun e => hGp e.symm)
      have rz9 := rzk.keep k9 hne
      have kk9 := kkk.trans k9
      have c9 : w9.cell? ⟨G, 4 + k, none⟩ = some (.int .u32 ((Dp.unregs l k).getD k 0)) := by
        rw [r9.cell]; exact Dp.stateCells_at _ HLN.out k hlt
      have f9 := r9.frozen (4 + k)
      rw [HN.out]
      have HR : Hid (Dp.Row (w9.setCell ⟨G, 4 + k, none⟩ (.int .u32 (Dp.unreg l k))) G 79 (Dp.stateCells ⟨a0, a1, a2, (B.toNat : Int) == 1, Dp.unregs l (k + 1)⟩)) := by
        have h := r9.set (4 + k) (.int .u32 (Dp.unreg l k))
        rw [Dp.stateCells_put] at h
        simp only [HPU.out] at h
        exact h
      have kset : Dp.Keeps (fun k => k = G) w9 (w9.setCell ⟨G, 4 + k, none⟩ (.int .u32 (Dp.unreg l k))) := Dp.Keeps.setCell (S := fun k => k = G) (p := ⟨G, 4 + k, none⟩) (Dp.Keeps.refl _ _) (.inr rfl) _
      have HZ := Hid.mk_ (rz9.keep kset hGw)
      have HP : Hid (Dp.PartsAt w0 p (w9.setCell ⟨G, 4 + k, none⟩ (.int .u32 (Dp.unreg l k))) (l.drop (13 + 4 * (k + 1)))) := by
        have h := hp9.keep kset hGp (fun i hi e => by have := HZ4.out; omega)
        exact h
      have HK : Hid (Dp.Keeps (fun k => k = p) w (w9.setCell ⟨G, 4 + k, none⟩ (.int .u32 (Dp.unreg l k)))) := kk9.next kset (fun i hi e => by have := HZ4.out; omega)
      generalize Dp.unreg l k = O at *
      generalize (Dp.unregs l k).getD k 0 = O0 at *
      clear rk rzk r9 rz9 hp9 hpk k9 kkk kset kk9 z9 HPU
      go_wp2
      go_roundw
      case rel => exact ⟨k + 1, by omega, by go_num, by omega, HP.out, HR.out, HZ.out, HK.out⟩
      case measure => simp [intOf]; omega
    · obtain rfl : k = 8 := by omega
      rw [show ((8 : Nat) : Int) = 8 from rfl]
      have HM : Hid ((Dp.stateCells ⟨a0, a1, a2, (B.toNat : Int) == 1, Dp.unregs l 8⟩).length = 12) := Dp.stateCells_length _ (Dp.unregs_length l 8 (Nat.le_refl _))
      have HLN : Hid ((Dp.unregs l 8).length = 8) := Dp.unregs_length l 8 (Nat.le_refl _)
      have HNR : Hid (Dp.numTo (l.drop (13 + 4 * 8)) 0 2 = Dp.unroot l) := Dp.numTo_drop _ _ _ _
      rw [← HU.out] at rk HM
      have HRK := Hid.mk_ rk
      have HUL : Hid ((Dp.unlab l).regs.length = 8) := by unfold Hid; rw [HU.out]; exact HLN.out
      have hld : ∀ wx, Dp.Keeps (fun k => k = p) wr wx → (Instr.loadAt 79 (.pointer (some ⟨G, 0, none⟩))).run Tryz.prog wx = .ok (.agg (Dp.stateCells (Dp.unlab l)).toArray) wx := fun wx kx => runLoadPSt (HRK.out.keep kx (fun e => hGp e.symm)) HUL.out
      have hS0 : Dp.Keeps (fun k => k = p) wr wr.drew := (Dp.Keeps.refl _ _).drew
      have HPD : Hid (Dp.PartsAt w0 p wr.drew (l.drop (13 + 4 * 8))) := hpk.keep (S := fun _ => False) ((Dp.Keeps.refl _ _).drew) (fun e => e) (fun _ _ e => e)
      clear HU
      generalize hUU : Dp.unlab l = U at *
      go_wp2
      refine Dp.wp_region_L (fun wx => Dp.Keeps (fun k => k = p) wr wx) 3 mixedP ?_
      refine' Dp.wpAnyL_take (v := .agg (Dp.stateCells U).toArray) 0 rfl (by kernel_rfl) (fun _ _ _ h => h) (by rfl) ?hya0 hS0 ?resta0
      case hya0 => intro wx hSx; exact Dp.run_load_op rfl rfl (hld wx hSx)
      simp only [Act.put, List.getElem_toArray, List.getElem_cons_zero, List.setIfInBounds_toArray, List.set_cons_zero, List.set_cons_succ]
      refine' Dp.wpAnyL_take 1 rfl (by kernel_rfl) (fun _ _ _ h => h) (by rfl) ?hyb1 hS0 ?restb1
      case hyb1 => intro wx hSx; go_simp; try with_reducible rfl
      simp only [Act.put, List.getElem_toArray, List.getElem_cons_zero, List.getElem_cons_succ, List.setIfInBounds_toArray, List.set_cons_zero, List.set_cons_succ]
      refine Dp.wpAnyL_one 2 rfl (by kernel_rfl) (by rfl) (fun K hK => ?_)
      go_simp
      refine (progQTwo w0 p eb _ _ he HPD.out).mono ?_
      intro e wA hA
      have hdl : (l.drop (13 + 4 * 8)).length = l.length - 45 := List.length_drop
      by_cases h6 : 2 ≤ (l.drop (13 + 4 * 8)).length
      case neg =>
        rw [if_neg h6, Dp.after_none] at hA
        obtain ⟨rfl, rfl⟩ := hA
        exact ⟨rfl, by rw [Dp.labelThere_neg (by omega)]; exact ⟨rfl, HPD.out.kept⟩⟩
      rw [if_pos h6, Dp.after_some] at hA
      obtain ⟨rfl, hpA, kA, zA⟩ := hA
      rw [List.drop_drop] at hpA
      rw [HNR.out]
      have hSA := hS0.trans kA
      refine hK _ _ ⟨fun _ => hSA, ?_⟩
      clear hK K
      refine Dp.wpAnyL_rest (by kernel_rfl) ?_
      refine Dp.wpAny_tail 3 rfl (by kernel_rfl) ?_
      simp only [List.drop_succ_cons, List.drop_zero]
      have HRZ : Hid (Dp.Row wA w.heap.size 79 ([] ++ Dp.stateCells ⟨0, 0, 0, false, [0, 0, 0, 0, 0, 0, 0, 0]⟩ ++ [])) := by
        unfold Hid; rw [List.append_nil, List.nil_append]; exact rzk.keep hSA hne
      have HPA : Hid (Dp.PartsAt w0 p wA (l.drop 47)) := hpA
      have HKA : Hid (Dp.Keeps (fun k => k = p) w wA) := kkk.trans hSA
      clear hld hS0 hpA kA zA hSA rzk kkk hpk HPD rk HRK
      go_wp2_with (refine Dp.wpList_store_in rfl 79 _ _ rfl w.heap.size 0 rfl (Dp.stateCells U) rfl 79 [] _ [] HRZ.out rfl (HM.out.trans rfl) (by rw [sizePState, HM.out]) (Dp.stateCells_one _) ?_)
      intro wB rB zB kB
      have rB' : Dp.Row wB w.heap.size 79 (Dp.stateCells U) := by simpa using rB
      go_wp2
      refine bodyPost_ret (v := .tuple #[.agg (Dp.stateCells U).toArray, .int .i64 (Dp.unroot l)]) (Dp.results_row_tmp (p := 2) (u := 3) (ty := 79) rfl _ _ w.heap.size 79 _ _ rfl rB' Tryz.underlying79 rfl (by rw [sizePState, HM.out])) rfl ?_
      rw [Dp.labelThere_pos ⟨by omega, by rw [hB]; exact hb1⟩, Dp.after_some]
      exact ⟨by first | rfl | rw [hUU], HPA.out.keep kB (show ¬ p = w.heap.size by omega) (fun i hi e => by omega), HKA.out.next kB (fun i hi e => by omega)⟩
end Go.Proofs.YtdipojfngdceoabGreatDoor
