/- Steps on the way: ProgFollow. -/
import Derived.Test.YtdipojfngdceoaaGreatDoorShQ09
import Derived.Test.YtdipojfngdceoaaGreatDoorShQ13
import Derived.Test.YtdipojfngdceoaaGreatDoorShQ30
import Derived.Test.YtdipojfngdceoaaGreatDoorShQ34
import Derived.Test.YtdipojfngdceoaaGreatDoorShQ35
namespace Go.Proofs.YtdipojfngdceoaaGreatDoor
open Go.RowKit
namespace Dp
def accCells (vt : Value) (after e : Int) : List Value := [vt, .int .i64 after, .int .i64 e]
theorem TextsAt.base {w0 wb w : World} {xs : List Value} {ts : List (List UInt8)} (h : TextsAt wb w xs ts) (hle : w0.heap.size ≤ wb.heap.size) : TextsAt w0 w xs ts := by
 refine ⟨h.1, fun i hi => ?_⟩
 obtain ⟨v, h1, h2, h3⟩ := h.2 i hi
 exact ⟨v, h1, h2, fun g hg => Nat.le_trans hle (h3 g hg)⟩
theorem heard_bad (S : Int) (l : List UInt8) (h : ¬ (47 ≤ l.length ∧ (l.getD 12 0).toNat ≤ 1)) : heard S l = none := by
 unfold heard; rw [if_neg (fun h' => h ⟨h'.1, h'.2.1⟩)]
theorem heard_other (S : Int) (l : List UInt8) (h : sum (label (unlab l) (unroot l)) ≠ S) : heard S l = none := by
 unfold heard; rw [if_neg (fun h' => h h'.2.2)]
theorem heard_step (S : Int) (l : List UInt8) (h : 47 ≤ l.length ∧ (l.getD 12 0).toNat ≤ 1) (hs : sum (label (unlab l) (unroot l)) = S) : heard S l = ended (coreStep proofsMemo (unlab l) ⟨l.drop 47, unroot l, []⟩) := by
 unfold heard; rw [if_pos ⟨h.1, h.2, hs⟩]; rfl
theorem coreStep_ok (s : Cs) (m : Pm) (hs : s.Ok) (r : Cs × Pm × Int) (h : coreStep proofsMemo s m = some r) : r.1.Ok := by
 have hload : ∀ (m : Pm) n (r : Pm × Int × Int), isWord n → proofsMemo.load m n = some r → isWord r.2.1 := by
  intro m n r _ hr
  simp only [proofsMemo] at hr
  split at hr
  ·simp only [Option.some.injEq] at hr; subst hr; simp [isWord]
  ·split at hr
   ·simp only [Option.some.injEq] at hr; subst hr
    exact numTo_bd m.rest 0 4 (Nat.le_refl _)
   ·simp at hr
 unfold coreStep at h
 split at h
 ·simp only [Option.some.injEq] at h; subst h; exact hs
 ·cases hl : proofsMemo.load m s.pc with
  | none => rw [hl] at h; simp at h
  | some q =>
   rw [hl] at h
   simp only at h
   split at h
   ·simp only [Option.some.injEq] at h; subst h; exact hs
   ·cases hp : perform proofsMemo s q.1 (decode q.2.1) with
    | none => rw [hp] at h; simp at h
    | some x =>
     rw [hp] at h
     simp only at h
     have hx := perform_ok proofsMemo s q.1 _ hs (fun n r hn hr => hload _ n r hn hr) x hp
     split at h
     ·simp only [Option.some.injEq] at h; subst h; exact hx
     ·simp only [Option.some.injEq] at h; subst h
      exact ⟨hx.pc, wrap_word _, hx.code, hx.len, hx.regs⟩
theorem ended_pos {r : Cs × Pm × Int} (h : r.2.1.rest.length = 0) : ended (some r) = some r := if_pos h
theorem ended_neg {r : Cs × Pm × Int} (h : ¬ r.2.1.rest.length = 0) : ended (some r) = none := if_neg h
theorem coreCells_one (s : Cs) (mem : Value) (h : mem.oneCell' = true) : ∀ v ∈ coreCells s mem, v.oneCell' = true := by
 intro v hv
 rw [coreCells_state] at hv
 rcases List.mem_append.1 hv with hv | hv
 ·exact stateCells_one s v hv
 ·obtain rfl : v = mem := by simpa using hv
  exact h
theorem TextsAt.cells {w0 w : World} {xs : List Value} {ts : List (List UInt8)} (h : TextsAt w0 w xs ts) : ∀ u ∈ xs, u.oneCell' = true := by
 intro u hu
 obtain ⟨i, hi, rfl⟩ := List.getElem_of_mem hu
 obtain ⟨v, h1, h2, _⟩ := h.2 i (by rw [← h.1]; exact hi)
 rw [List.getElem?_eq_getElem hi] at h1
 obtain ⟨ad, cap, hv⟩ := h2.isSlice
 rw [Option.some.inj h1, hv]; rfl
theorem accCells_one (vt : Value) (a e : Int) (h : vt.oneCell' = true) : ∀ v ∈ accCells vt a e, v.oneCell' = true := by
 intro v hv
 simp only [accCells, List.mem_cons, List.not_mem_nil, or_false] at hv
 rcases hv with rfl | rfl | rfl
 ·exact h
 ·rfl
 ·rfl
end Dp
theorem zeroAcc : (Tryz.prog.info? 126).map (fun i => i.zero) = some (some (.agg (Dp.accCells (.slice none 0 0) 0 0).toArray)) := by kernel_rfl
theorem sizeAcc : (Tryz.prog.info? 126).map (·.size) = some 3 := by kernel_rfl
theorem zeroProofs : (Tryz.prog.info? 184).map (fun i => i.zero) = some (some (.agg ([.slice none 0 0, .pointer none, .int .i64 0, .slice none 0 0] : List Value).toArray)) := by kernel_rfl
theorem sizeProofs : (Tryz.prog.info? 184).map (·.size) = some 4 := by kernel_rfl
set_option maxRecDepth 100000 in
set_option maxHeartbeats 1000000 in
theorem progProven (root : Int) (p : Nat) (w : World) :
  Calls Tryz.prog 122 #[.int .i64 root, .pointer (some ⟨p, 0, none⟩)] w fun e w' => e = .returned (.agg ([.slice none 0 0, .pointer (some ⟨p, 0, none⟩), .int .i64 root, .slice none 0 0] : List Value).toArray) ∧ Dp.Keeps (fun _ => False) w w' := by
 go_enter Tryz.func122, Tryz.ntmps122
 go_wp2_with (refine Dp.wpList_alloc_row rfl 184 rfl _ zeroProofs ?_)
 intro w1 r1 z1 k1
 have HR1 := Hid.mk_ (Dp.row_nil r1)
 clear r1
 go_wp2_with (refine Dp.wpList_store_in rfl 184 _ _ rfl w.heap.size 0 rfl [.slice none 0 0, .pointer (some ⟨p, 0, none⟩), .int .i64 root, .slice none 0 0] rfl 184 [] _ [] HR1.out rfl rfl (by rw [sizeProofs]; rfl) (by intro v hv; simp at hv; rcases hv with rfl | rfl | rfl | rfl <;> rfl) ?_)
 intro w2 r2 z2 k2
 have r2' : Dp.Row w2 w.heap.size 184 [.slice none 0 0, .pointer (some ⟨p, 0, none⟩), .int .i64 root, .slice none 0 0] := by simpa using r2
 go_wp2
 refine bodyPost_ret (v := .agg ([.slice none 0 0, .pointer (some ⟨p, 0, none⟩), .int .i64 root, .slice none 0 0] : List Value).toArray) (results_cell_row rfl _ _ w.heap.size 184 _ (0, 0) _ rfl r2' Tryz.underlying184 rfl (by rw [sizeProofs]; rfl)) rfl ?_
 exact ⟨rfl, k1.next k2 (fun i hi e => by omega)⟩
set_option maxRecDepth 100000 in
set_option maxHeartbeats 400000 in
theorem progRfRoot (q : Nat) (r : Int) (w : World) (hc : w.cell? ⟨q, 2, none⟩ = some (.int .i64 r)) :
  Calls Tryz.prog 124 #[.pointer (some ⟨q, 0, none⟩)] w fun e w' => e = .returned (.int .i64 r) ∧ w' = w := by
 go_enter Tryz.func124, Tryz.ntmps124
 go_wp2
 go_ret
 exact ⟨rfl, rfl⟩
set_option maxRecDepth 100000 in
set_option maxHeartbeats 2000000 in
theorem progFollow (w0 : World) (p : Nat) (eb : Addr) (S : Int) (l : List UInt8) (w : World) (he : Dp.ErrAt w0 eb) (h : Dp.PartsAt w0 p w l) (hl : l.length ≤ 16777216) :
  Calls Tryz.prog 100 #[.int .i64 S, .pointer (some ⟨p, 0, none⟩)] w fun e w' => Dp.after (Dp.heard S l) (e = .panicked (Dp.wrong eb) ∧ Dp.Keeps (fun _ => False) w0 w') fun r => ∃ vt xs, e = .returned (.agg (Dp.accCells vt (Dp.toldBy (some r)).1 (Dp.toldBy (some r)).2).toArray) ∧ Dp.Own w' 47 vt xs ∧ Dp.TextsAt w w' xs (Dp.believed l r) ∧ (∀ g, vt.ownBlock = some g → w.heap.size ≤ g) ∧ Dp.Keeps (fun k => k = p) w w' := by
 have hplt : p < w.heap.size := by obtain ⟨v, hr, _⟩ := h.row; exact hr.lt
 have hw0 := h.new
 have h0w := h.kept.size
 go_enter Tryz.func100, Tryz.ntmps100
 go_wp2_with (refine Dp.wpList_alloc_row rfl 126 rfl _ zeroAcc ?_)
 intro w1 r1 z1 k1
 have hp1 := h.keep k1 (fun e => e) (fun _ _ e => e)
 clear h
 go_wp2_with fail
 refine (progCutLabel w0 p eb l _ he hp1).mono ?_
 intro e w2 h2
 by_cases hc : 47 ≤ l.length ∧ (l.getD 12 0).toNat ≤ 1
 case neg =>
  rw [Dp.labelThere_neg hc, Dp.after_none] at h2
  obtain ⟨rfl, hk⟩ := h2
  exact ⟨rfl, by rw [Dp.heard_bad S l hc]; exact ⟨rfl, hk⟩⟩
 rw [Dp.labelThere_pos hc, Dp.after_some] at h2
 obtain ⟨rfl, hp2, k2⟩ := h2
 have hne : ¬ w.heap.size = p := by omega
 have rr2 := r1.keep k2 hne
 have kk2 : Dp.Keeps (fun k => k = p) w w2 := (k1.mono (fun _ _ e => e.elim)).trans k2
 have HOK := Hid.mk_ (Dp.unlab_ok l)
 have HRB : Hid (0 ≤ Dp.unroot l ∧ Dp.unroot l < 65536) := Dp.numTo_two l 45
 have HLL : Hid ((Dp.label (Dp.unlab l) (Dp.unroot l)).length = 47) := Dp.label_length _ _ (Dp.unlab_ok l).len
 have HST : Hid (Dp.sum (Dp.label (Dp.unlab l) (Dp.unroot l)) = S → Dp.heard S l = Dp.ended (Dp.coreStep Dp.proofsMemo (Dp.unlab l) ⟨l.drop 47, Dp.unroot l, []⟩)) := fun hs => Dp.heard_step S l hc hs
 have HOT : Hid (Dp.sum (Dp.label (Dp.unlab l) (Dp.unroot l)) ≠ S → Dp.heard S l = none) := fun hs => Dp.heard_other S l hs
 have HBL : Hid (∀ r, Dp.believed l r = Dp.label (Dp.unlab l) (Dp.unroot l) :: r.2.1.texts) := fun r => rfl
 clear k1 k2 r1 hp1 hc
 generalize Dp.unlab l = U at *
 generalize Dp.unroot l = RT at *
 have HM : Hid ((Dp.stateCells U).length = 12) := Dp.stateCells_length _ HOK.out.len
 have z2 := kk2.size
 generalize hG : w2.heap.size = G at *
 have hGw : w.heap.size < G := by have := rr2.lt; omega
 go_wp2_with (refine Dp.wpList_alloc_row rfl 100 rfl _ zeroPState ?_)
 intro w3 r3 z3 k3
 have HR3 : Hid (Dp.Row w3 G 100 ([] ++ Dp.stateCells ⟨0, 0, 0, false, [0, 0, 0, 0, 0, 0, 0, 0]⟩ ++ [])) := by unfold Hid; rw [List.append_nil, List.nil_append]; first | exact r3 | (rw [← hG]; exact r3)
 go_wp2_with (refine Dp.wpList_store_in rfl 100 _ _ rfl G 0 rfl (Dp.stateCells U) rfl 100 [] _ [] HR3.out rfl (HM.out.trans rfl) (by rw [sizePState, HM.out]) (Dp.stateCells_one _) ?_)
 intro w4 r4 z4 k4
 have hpG : ¬ p = G := by omega
 have hwG : ¬ w.heap.size = G := by omega
 have hp4 := (hp2.keep k3 (fun e => e) (fun _ _ e => e)).keep k4 hpG (fun i hi e => by omega)
 have rr4 := (rr2.keep k3 (fun e => e)).keep k4 hwG
 have kk4 : Dp.Keeps (fun k => k = p) w w4 := (kk2.trans (k3.mono (fun _ _ e => e.elim))).next k4 (fun i hi e => by omega)
 have zz4 : w4.heap.size = G + 1 := by omega
 have r4' : Dp.Row w4 G 100 (Dp.stateCells U) := by simpa using r4
 have HR4 := Hid.mk_ (Dp.row_nil r4')
 clear rr2 kk2 hp2 k3 k4 r3 z3 z4 HR3 r4
 go_wp2_with (refine Dp.wpList_load_in rfl 100 _ rfl G 0 rfl 100 [] _ [] HR4.out rfl _ Tryz.underlying100 rfl (by rw [sizePState, HM.out]) ?_)
 intro _
 go_wp2_with fail
 refine (progLabel U RT _ HOK.out HRB.out).mono ?_
 rintro e w5 ⟨⟨vl, rfl, ol, fl⟩, k5⟩
 have hp5 := hp4.keep k5 (fun e => e) (fun _ _ e => e)
 have rr5 := rr4.keep k5 (fun e => e)
 have r5 := r4'.keep k5 (fun e => e)
 have kk5 : Dp.Keeps (fun k => k = p) w w5 := kk4.trans (k5.mono (fun _ _ e => e.elim))
 have HFL : Hid (∀ g, vl.ownBlock = some g → G + 1 ≤ g) := fun g hg => by have := fl g hg; omega
 have z5 : G + 1 ≤ w5.heap.size := by have := k5.size; omega
 clear hp4 rr4 r4' HR4 kk4 k5 fl
 obtain ⟨adl, capl, evl⟩ := ol.isSlice
 rw [Dp.vals_length, HLL.out] at evl
 subst evl
 have HOL := Hid.mk_ ol
 have HBY : Hid (Dp.Bytes w5 (.slice adl 47 capl) (Dp.label U RT)) := Dp.own_bytes ol
 clear ol
 have HPT := Hid.mk_ (Dp.parts_one (e := 47) (HBY.out.still ((Dp.Keeps.refl _ _).alloc (.cells #[.slice adl 47 capl] 47))))
 go_wp2_with fail
 refine (digSum _ [Dp.label U RT] _ HPT.out).mono ?_
 rintro e w6 ⟨rfl, hww⟩
 subst w6
 rw [show ([Dp.label U RT] : List (List UInt8)).flatten = Dp.label U RT by simp]
 have k6 : Dp.Keeps (fun _ => False) w5 (w5.alloc (.cells #[.slice adl 47 capl] 47)) := (Dp.Keeps.refl _ _).alloc _
 have hp6 := hp5.keep k6 (fun e => e) (fun _ _ e => e)
 have rr6 := rr5.keep k6 (fun e => e)
 have r6 := r5.keep k6 (fun e => e)
 have kk6 : Dp.Keeps (fun k => k = p) w (w5.alloc (.cells #[.slice adl 47 capl] 47)) := kk5.trans (k6.mono (fun _ _ e => e.elim))
 have HOL6 := Hid.mk_ (HOL.out.keep k6 (fun _ _ e => e))
 have z6 : G + 1 ≤ (w5.alloc (.cells #[.slice adl 47 capl] 47)).heap.size := by have := k6.size; omega
 clear hp5 rr5 r5 kk5 k6 HOL HBY HPT z5
 generalize w5.alloc (.cells #[.slice adl 47 capl] 47) = w6 at *
 by_cases hs : Dp.sum (Dp.label U RT) = S
 case neg =>
  have hg : (Dp.sum (Dp.label U RT) == S) = false := by rw [beq_eq_false_iff_ne]; exact hs
  go_wp2_with fail
  with_reducible refine (progReqF _ eb _ (he.keep hp6.kept)).mono ?_
  rintro e w7 ⟨rfl, rfl⟩
  exact ⟨rfl, by rw [HOT.out hs]; exact ⟨rfl, hp6.kept⟩⟩
 have HH := Hid.mk_ (HST.out hs)
 have hg : (Dp.sum (Dp.label U RT) == S) = true := by rw [beq_iff_eq]; exact hs
 clear HST HOT hs
 go_wp2_with fail
 with_reducible refine (progReqT _ _).mono ?_
 rintro e w7 ⟨rfl, hww⟩
 subst w7
 clear hg
 go_wp2_with fail
 refine (progProven RT p _).mono ?_
 rintro e w7 ⟨rfl, k7⟩
 have hp7 := hp6.keep k7 (fun e => e) (fun _ _ e => e)
 have rr7 := rr6.keep k7 (fun e => e)
 have r7 := r6.keep k7 (fun e => e)
 have kk7 : Dp.Keeps (fun k => k = p) w w7 := kk6.trans (k7.mono (fun _ _ e => e.elim))
 have HOL7 := Hid.mk_ (HOL6.out.keep k7 (fun _ _ e => e))
 have z7 : G + 1 ≤ w7.heap.size := by have := k7.size; omega
 clear hp6 rr6 r6 kk6 k7 HOL6 z6
 generalize hq : w7.heap.size = q at *
 go_wp2_with (refine Dp.wpList_alloc_row rfl 184 rfl _ zeroProofs ?_)
 intro w8 r8 z8 k8
 have HR8 : Hid (Dp.Row w8 q 184 ([] ++ [.slice none 0 0, .pointer none, .int .i64 0, .slice none 0 0] ++ [])) := by unfold Hid; rw [List.append_nil, List.nil_append]; first | exact r8 | (rw [← hq]; exact r8)
 go_wp2_with (refine Dp.wpList_store_in rfl 184 _ _ rfl q 0 rfl [.slice none 0 0, .pointer (some ⟨p, 0, none⟩), .int .i64 RT, .slice none 0 0] rfl 184 [] _ [] HR8.out rfl rfl (by rw [sizeProofs]; rfl) (by intro v hv; simp at hv; rcases hv with rfl | rfl | rfl | rfl <;> rfl) ?_)
 intro w9 r9 z9 k9
 have hpq : ¬ p = q := by omega
 have hp9 := (hp7.keep k8 (fun e => e) (fun _ _ e => e)).keep k9 hpq (fun i hi e => by omega)
 have rr9 := (rr7.keep k8 (fun e => e)).keep k9 (show ¬ w.heap.size = q by omega)
 have rs9 := (r7.keep k8 (fun e => e)).keep k9 (show ¬ G = q by omega)
 have rq9 : Dp.Row w9 q 184 [.slice none 0 0, .pointer (some ⟨p, 0, none⟩), .int .i64 RT, .slice none 0 0] := by simpa using r9
 have HOL9 := Hid.mk_ ((HOL7.out.keep k8 (fun _ _ e => e)).keep k9 (fun g hg e => by have := HOL7.out.lt g hg; omega))
 have kk9 : Dp.Keeps (fun k => k = p) w w9 := (kk7.trans (k8.mono (fun _ _ e => e.elim))).next k9 (fun i hi e => by omega)
 have zz9 : w9.heap.size = q + 1 := by omega
 clear hp7 rr7 r7 kk7 HOL7 k8 k9 r8 z8 r9 z9 HR8
 have HBD : Hid (∀ wx, (Instr.build 137 #[(0, .agg (Dp.stateCells U).toArray), (1, .iface 186 (.pointer (some ⟨q, 0, none⟩)))]).run Tryz.prog wx = .ok (.agg (Dp.coreCells U (.iface 186 (.pointer (some ⟨q, 0, none⟩)))).toArray) wx) := by
  intro wx
  obtain ⟨a, b, c, d, rg⟩ := U
  obtain ⟨x0, x1, x2, x3, x4, x5, x6, x7, hx⟩ := Dp.list8 HOK.out.len
  simp only at hx
  subst hx
  kernel_rfl
 have HMC : Hid ((Dp.coreCells U (.iface 186 (.pointer (some ⟨q, 0, none⟩)))).length = 13) := by unfold Hid; rw [Dp.coreCells_state, List.length_append, HM.out]; rfl
 have HRS := Hid.mk_ (Dp.row_nil rs9)
 clear rs9
 go_wp2_with (first | (refine Dp.wpList_load_in rfl 100 _ rfl G 0 rfl 100 [] _ [] HRS.out rfl _ Tryz.underlying100 rfl (by rw [sizePState, HM.out]) ?_; intro _) | (refine Dp.wpList_build_two rfl 137 0 1 _ _ rfl (.agg (Dp.stateCells U).toArray) (.iface 186 (.pointer (some ⟨q, 0, none⟩))) (.agg (Dp.coreCells U (.iface 186 (.pointer (some ⟨q, 0, none⟩)))).toArray) rfl rfl (HBD.out _) ?_; intro _) | (refine Dp.wpList_alloc_row rfl 137 rfl _ zeroCore ?_))
 intro w10 r10 z10 k10
 have HR10 : Hid (Dp.Row w10 (q + 1) 137 ([] ++ Dp.coreCells ⟨0, 0, 0, false, [0, 0, 0, 0, 0, 0, 0, 0]⟩ .nilIface ++ [])) := by unfold Hid; rw [List.append_nil, List.nil_append]; first | exact r10 | (rw [← zz9]; exact r10)
 go_wp2_with (refine Dp.wpList_store_in rfl 137 _ _ rfl (q + 1) 0 rfl (Dp.coreCells U (.iface 186 (.pointer (some ⟨q, 0, none⟩)))) rfl 137 [] _ [] HR10.out rfl (HMC.out.trans rfl) (by rw [sizeCore, HMC.out]) (Dp.coreCells_one _ _ rfl) ?_)
 intro wb rb zb kb
 have rcb : Dp.Row wb (q + 1) 137 (Dp.coreCells U (.iface 186 (.pointer (some ⟨q, 0, none⟩)))) := by simpa using rb
 have hpb := (hp9.keep k10 (fun e => e) (fun _ _ e => e)).keep kb (show ¬ p = q + 1 by omega) (fun i hi e => by omega)
 have rrb := (rr9.keep k10 (fun e => e)).keep kb (show ¬ w.heap.size = q + 1 by omega)
 have rqb := (rq9.keep k10 (fun e => e)).keep kb (show ¬ q = q + 1 by omega)
 have HOLB := Hid.mk_ ((HOL9.out.keep k10 (fun _ _ e => e)).keep kb (fun g hg e => by have := HOL9.out.lt g hg; omega))
 have kkb : Dp.Keeps (fun k => k = p) w wb := (kk9.trans (k10.mono (fun _ _ e => e.elim))).next kb (fun i hi e => by omega)
 have zzb : wb.heap.size = q + 1 + 1 := by omega
 have hI : Dp.ProofsInv w0 wb (q + 1) q p l.length wb ⟨l.drop 47, RT, []⟩ := by
  refine ⟨hpb, by omega, hpq, by omega, by omega, by omega, by omega, Dp.Keeps.refl _ _, HRB.out, ⟨.slice none 0 0, .slice none 0 0, [], rfl, rqb, Dp.Own.nil _ _, Dp.TextsAt.nil _ _, ?_, fun g hg => by simp [Value.ownBlock] at hg⟩⟩
  simp
 have HKB := Hid.mk_ kkb
 have HRR := Hid.mk_ rrb
 have HRQ := Hid.mk_ rqb
 have HPB := Hid.mk_ hpb
 have HRC := Hid.mk_ rcb
 have HRCB := Hid.mk_ rcb
 clear hp9 rr9 rq9 kk9 HOL9 k10 r10 z10 HR10 rb zb kb HBD hpb rrb rqb kkb HRS
 go_wp2_with fail
 refine (progStep Dp.proofsMemo (Dp.ProofsF q p) (Dp.ProofsInv w0 wb (q + 1) q p l.length) (Dp.ProofsInv w0 wb (q + 1) q p l.length) (Dp.ProofsInv w0 wb (q + 1) q p l.length) (fun w' => Dp.Keeps (fun _ => False) w0 w') (Dp.wrong eb) 186 (.pointer (some ⟨q, 0, none⟩)) U (q + 1) wb ⟨l.drop 47, RT, []⟩ HOK.out (Dp.proofsOk w0 wb (q + 1) q p eb l.length he (by omega) hl) (Dp.proofsOk w0 wb (q + 1) q p eb l.length he (by omega) hl) rcb hI).mono ?_
 intro e wc hc
 clear hI rcb
 cases hcs : Dp.coreStep Dp.proofsMemo U ⟨l.drop 47, RT, []⟩ with
 | none =>
  rw [hcs, Dp.after_none] at hc
  obtain ⟨rfl, hk⟩ := hc
  have hh := HH.out
  rw [hcs] at hh
  exact ⟨rfl, by rw [hh]; exact ⟨rfl, hk⟩⟩
 | some r =>
  rw [hcs, Dp.after_some] at hc
  obtain ⟨rfl, rcc, hIc⟩ := hc
  have hh := HH.out
  rw [hcs] at hh
  have HH2 := Hid.mk_ hh
  have HCO := Hid.mk_ (Dp.coreStep_ok U ⟨l.drop 47, RT, []⟩ HOK.out r hcs)
  clear hh hcs HH
  have HIC := Hid.mk_ hIc
  have HRC2 := Hid.mk_ rcc
  clear hIc rcc HRC
  go_wp2_with fail
  refine (progQEnd w0 p eb r.2.1.rest wc he HIC.out.parts).mono ?_
  rintro e wd ⟨hwd, hee⟩
  subst wd
  by_cases hz : r.2.1.rest.length = 0
  case neg =>
   rw [if_neg hz] at hee
   subst hee
   exact ⟨rfl, by rw [HH2.out, Dp.ended_neg hz]; exact ⟨rfl, HIC.out.parts.kept⟩⟩
  rw [if_pos hz] at hee
  subst hee
  have HH3 : Hid (Dp.heard S l = some r) := by unfold Hid; rw [HH2.out, Dp.ended_pos hz]
  clear HH2 hz
  have hfr := HIC.out.frame
  have hRne : ¬ (w.heap.size = p ∨ w.heap.size = q ∨ w.heap.size = q + 1) := by omega
  have rrc := HRR.out.keep hfr hRne
  have zc := hfr.size
  have HOLC := Hid.mk_ (HOLB.out.keep hfr (fun g hg e => by
   rcases HOLB.out with ⟨e1, _⟩ | ⟨g', tail, e1, hr', _⟩
   ·rw [e1] at hg; simp [Value.ownBlock] at hg
   ·rw [e1] at hg
    have e2 : g' = g := by simpa [Value.ownBlock] using hg
    subst e2
    rcases e with e | e | e
    ·obtain ⟨vv, hpr, _⟩ := HPB.out.row
     exact hr'.ne hpr (by decide) e
    ·exact hr'.ne HRQ.out (by decide) e
    ·exact hr'.ne HRCB.out (by decide) e))
  have kkc : Dp.Keeps (fun k => k = p) w wc := HKB.out.next hfr (fun i hi e => by omega)
  obtain ⟨a, vt, xs, ha, hrq, hot, htx, hlen, hn⟩ := HIC.out.row
  have HTX := Hid.mk_ htx
  have HLN := Hid.mk_ hlen
  have HXL : Hid (xs.length ≤ 16777216) := by
   have h1 := htx.1
   unfold Hid; omega
  obtain ⟨adt, capt, evt⟩ := hot.isSlice
  subst evt
  have kd : Dp.Keeps (fun _ => False) wc (wc.alloc (.cells #[.slice adl 47 capl] 47)) := (Dp.Keeps.refl _ _).alloc _
  have HOWL : Hid (Dp.Own (wc.alloc (.cells #[.slice adl 47 capl] 47)) 47 (.slice (some ⟨wc.heap.size, 0, none⟩) 1 1) [.slice adl 47 capl]) := .inr ⟨wc.heap.size, [], rfl, by simpa using Dp.Row.allocNew wc 47 [.slice adl 47 capl], by simp [maxLen]⟩
  have HOWT := Hid.mk_ (hot.alloc (.cells #[.slice adl 47 capl] 47))
  have c3 : (wc.alloc (.cells #[.slice adl 47 capl] 47)).cell? ⟨q, 3, none⟩ = some (.slice adt xs.length capt) := (hrq.keep kd (fun e => e)).cell 3
  have HRRD := Hid.mk_ (rrc.keep kd (fun e => e))
  have HRCD := Hid.mk_ (HRC2.out.keep kd (fun e => e))
  have HRQD := Hid.mk_ (hrq.keep kd (fun e => e))
  have HOLD := Hid.mk_ (HOLC.out.keep kd (fun _ _ e => e))
  have HTXD := Hid.mk_ (htx.keep kd (fun _ _ _ _ e => e))
  have HKD : Hid (Dp.Keeps (fun k => k = p) w (wc.alloc (.cells #[.slice adl 47 capl] 47))) := kkc.trans (kd.mono (fun _ _ e => e.elim))
  have HX1 := Hid.mk_ htx.cells
  have zd : (wc.alloc (.cells #[.slice adl 47 capl] 47)).heap.size = wc.heap.size + 1 := by simp
  have HSB := Hid.mk_ HIC.out.root
  clear hrq hot htx hlen rrc kkc kd hfr HTX HOLC HRC2 HRR HRQ HPB HRCB HOLB HKB
  go_wp2_with (at_builtin; refine Dp.wpList_append_Both rfl _ _ 27 rfl 47 (.slice none 0 0) 24 Tryz.underlying27 infoBytes rfl (.slice (some ⟨wc.heap.size, 0, none⟩) 1 1) [.slice adl 47 capl] rfl HOWL.out (.slice adt xs.length capt) xs rfl HOWT.out HX1.out (by have := HXL.out; simp [maxLen]; omega) (by have := HXL.out; simp; omega) ?_)
  intro va we oa ka sa
  generalize wc.alloc (.cells #[.slice adl 47 capl] 47) = wd at *
  have hTB : ∀ {b f cs}, Dp.Row wd b f cs → f ≠ 47 → ¬ (Value.slice (some ⟨wc.heap.size, 0, none⟩) 1 1).ownBlock = some b := fun hb hf e => HOWL.out.ne hb hf _ e rfl
  have hFW : ∀ i, (Value.slice (some ⟨wc.heap.size, 0, none⟩) 1 1).ownBlock = some i → i = wc.heap.size := fun i e => by simpa [Value.ownBlock] using e.symm
  have hrre := HRRD.out.keep ka (hTB HRRD.out (by decide))
  have hrce := HRCD.out.keep ka (hTB HRCD.out (by decide))
  have hrqe := HRQD.out.keep ka (hTB HRQD.out (by decide))
  have hole := HOLD.out.keep ka (fun g hg e => by
   rcases HOLD.out with ⟨e1, _⟩ | ⟨g', tail, e1, hr', _⟩
   ·rw [e1] at hg; simp [Value.ownBlock] at hg
   ·rw [e1] at hg
    have e2 : g' = g := by simpa [Value.ownBlock] using hg
    subst e2
    exact hTB hr' (by decide) e)
  have htxe := HTXD.out.keep ka (fun g e hg _ => hTB hg (by decide))
  have kke : Dp.Keeps (fun k => k = p) w we := HKD.out.next ka (fun i hi e => by have := hFW i e; have := HKD.out.size; omega)
  have hvn : ∀ g, va.ownBlock = some g → w.heap.size ≤ g := by
   intro g hg
   have hs1 := HKD.out.size
   rcases sa.out with hh | hh
   ·rw [hh.1] at hg; have := hFW g hg; omega
   ·rw [hh.1] at hg
    have : wc.heap.size + 1 = g := by simpa using hg
    omega
  obtain ⟨ada, capa, eva⟩ := oa.isSlice
  subst eva
  have zwe := kke.size
  have HFIN : Hid (Dp.TextsAt w we (Value.slice adl 47 capl :: xs) (Dp.believed l r)) := by
   unfold Hid
   rw [HBL.out r]
   refine Dp.TextsAt.append (xs := [.slice adl 47 capl]) (ts := [Dp.label U RT]) (Dp.TextsAt.one hole (fun g hg => ?_)) (htxe.base (by omega))
   have := HFL.out g hg
   omega
  have HOA := Hid.mk_ oa
  have HKE := Hid.mk_ kke
  have HRE := Hid.mk_ hrre
  have HCE := Hid.mk_ hrce
  have HQE := Hid.mk_ hrqe
  have HVN := Hid.mk_ hvn
  have hRlt := hrre.lt
  have hClt := hrce.lt
  have HLEN : Hid ((Value.slice adl 47 capl :: xs).length = xs.length + 1) := rfl
  rw [HLEN.out] at HOA HVN ⊢
  clear oa ka sa hTB hFW hrre hrce hrqe hole htxe kke hvn HOWL HOWT c3 HRRD HRCD HRQD HOLD HTXD HKD zd
  generalize hAA : we.heap.size = A at *
  have HBD2 : Hid (∀ wx, (Instr.build 126 #[(0, .slice ada (xs.length + 1) capa), (2, .int .i64 r.2.2)]).run Tryz.prog wx = .ok (.agg (Dp.accCells (.slice ada (xs.length + 1) capa) 0 r.2.2).toArray) wx) := fun wx => by kernel_rfl
  go_wp2_with (first | (refine Dp.wpList_build_two rfl 126 0 2 _ _ rfl (.slice ada (xs.length + 1) capa) (.int .i64 r.2.2) (.agg (Dp.accCells (.slice ada (xs.length + 1) capa) 0 r.2.2).toArray) rfl rfl (HBD2.out _) ?_; intro _) | (refine Dp.wpList_alloc_row rfl 126 rfl _ zeroAcc ?_))
  intro wf rf zf kf
  have HRF : Hid (Dp.Row wf A 126 ([] ++ Dp.accCells (.slice none 0 0) 0 0 ++ [])) := by unfold Hid; rw [List.append_nil, List.nil_append]; first | exact rf | (rw [← hAA]; exact rf)
  go_wp2_with (refine Dp.wpList_store_in rfl 126 _ _ rfl A 0 rfl (Dp.accCells (.slice ada (xs.length + 1) capa) 0 r.2.2) rfl 126 [] _ [] HRF.out rfl rfl (by rw [sizeAcc]; rfl) (Dp.accCells_one _ _ _ rfl) ?_)
  intro wg rg zg kg
  have hrA : Dp.Row wg A 126 (Dp.accCells (.slice ada (xs.length + 1) capa) 0 r.2.2) := by simpa using rg
  have hRG := (HRE.out.keep kf (fun e => e)).keep kg (show ¬ w.heap.size = A by omega)
  have hCG := (HCE.out.keep kf (fun e => e)).keep kg (show ¬ q + 1 = A by omega)
  have hQG := (HQE.out.keep kf (fun e => e)).keep kg (show ¬ q = A by omega)
  have HOG := Hid.mk_ ((HOA.out.keep kf (fun _ _ e => e)).keep kg (fun g hg e => by have := HOA.out.lt g hg; omega))
  have HTG := Hid.mk_ ((HFIN.out.keep kf (fun _ _ _ _ e => e)).keep kg (fun g e hg _ he => by
   have h1 := (hg.lt)
   have h2 : Dp.Row wf A 126 (Dp.accCells (.slice none 0 0) 0 0) := by simpa using HRF.out
   exact hg.ne h2 (by decide) he))
  have HKG : Hid (Dp.Keeps (fun k => k = p) w wg) := (HKE.out.trans (kf.mono (fun _ _ e => e.elim))).next kg (fun i hi e => by omega)
  have hAlt := hrA.lt
  clear rf zf kf HRF rg kg HBD2 HOA HFIN HKE HRE HCE HQE
  by_cases hez : r.2.2 = 0
  ·have heb : (r.2.2 == 0) = true := by rw [hez]; rfl
   have HT : Hid (Dp.toldBy (some r) = (Dp.stamp r.1 r.2.1.root, r.2.2)) := by
    unfold Hid Dp.toldBy; simp only; rw [if_pos hez, hez]
   have HLR : Hid ((Dp.stateCells r.1).length = 12) := Dp.stateCells_length _ HCO.out.len
   have hld : ∀ wx, Dp.Keeps (fun _ => False) wg wx → (Instr.loadAt 100 (.pointer (some ⟨q + 1, 0, none⟩))).run Tryz.prog wx = .ok (.agg (Dp.stateCells r.1).toArray) wx := fun wx kx =>
    run_loadAt_mid wx (q + 1) 0 100 _ _ (Dp.Row.range (pre := []) (post := [.iface 186 (.pointer (some ⟨q, 0, none⟩))]) (hCG.keep kx (fun e => e))) Tryz.underlying100 rfl (by rw [sizePState, HLR.out])
   have hq2 : ∀ wx, Dp.Keeps (fun _ => False) wg wx → wx.cell? ⟨q, 2, none⟩ = some (.int .i64 r.2.1.root) := fun wx kx => (hQG.keep kx (fun e => e)).cell 2
   have hS0 : Dp.Keeps (fun _ => False) wg wg.drew := (Dp.Keeps.refl _ _).drew
   have HRA := Hid.mk_ hrA
   have HRG := Hid.mk_ hRG
   clear hez hrA hRG hCG hQG
   go_wp2
   refine Dp.wp_region_L (fun wx => Dp.Keeps (fun _ => False) wg wx) 4 mixedP ?_
   refine' Dp.tj 0 hS0 ?_
   simp only [Act.put, Dp.tks]
   refine' Dp.tk (v := .agg (Dp.stateCells r.1).toArray) 1 ?hya1 hS0 ?resta1
   case hya1 => intro wx hSx; exact Dp.run_load_op rfl rfl (hld wx hSx)
   simp only [Act.put, Dp.tks]
   refine Dp.wpAnyL_one 2 rfl (by kernel_rfl) (by rfl) (fun K hK => ?_)
   go_simp
   refine (progRfRoot q _ _ (hq2 _ hS0)).mono ?_
   rintro e wA ⟨rfl, hwA⟩
   subst wA
   refine hK _ _ ⟨fun _ => hS0, ?_⟩
   clear hK K
   refine Dp.wpAnyL_one 3 rfl (by kernel_rfl) (by rfl) (fun K hK => ?_)
   go_simp
   refine (progSStamp r.1 r.2.1.root _ HCO.out HSB.out).mono ?_
   rintro e wh ⟨rfl, kh⟩
   have hSh := hS0.trans kh
   refine hK _ _ ⟨fun _ => hSh, ?_⟩
   clear hK K
   refine Dp.wpAnyL_rest (by kernel_rfl) ?_
   refine Dp.wpAny_tail 4 rfl (by kernel_rfl) ?_
   simp only [List.drop_succ_cons, List.drop_zero]
   have hrh := HRA.out.keep hSh (fun e => e)
   have c1 : wh.cell? ⟨A, 1, none⟩ = some (.int .i64 0) := hrh.cell 1
   have f1 := hrh.frozen 1
   have HRI : Hid (Dp.Row (wh.setCell ⟨A, 1, none⟩ (.int .i64 (Dp.stamp r.1 r.2.1.root))) A 126 ([] ++ Dp.accCells (.slice ada (xs.length + 1) capa) (Dp.stamp r.1 r.2.1.root) r.2.2 ++ [])) := Dp.row_nil (hrh.set 1 _)
   have kset : Dp.Keeps (fun k => k = A) wh (wh.setCell ⟨A, 1, none⟩ (.int .i64 (Dp.stamp r.1 r.2.1.root))) := Dp.Keeps.setCell (S := fun k => k = A) (p := ⟨A, 1, none⟩) (Dp.Keeps.refl _ _) (.inr rfl) _
   have HRZ := Hid.mk_ (Dp.row_nil ((HRG.out.keep hSh (fun e => e)).keep kset (show ¬ w.heap.size = A by omega)))
   have HOI := Hid.mk_ ((HOG.out.keep hSh (fun _ _ e => e)).keep kset (fun g hg e => by
    subst e
    exact ((HOG.out.keep hSh (fun _ _ e => e)).ne hrh (by decide) _ hg rfl)))
   have HTI := Hid.mk_ ((HTG.out.keep hSh (fun _ _ _ _ e => e)).keep kset (fun g e hg _ => hg.ne hrh (by decide)))
   have HKI : Hid (Dp.Keeps (fun k => k = p) w (wh.setCell ⟨A, 1, none⟩ (.int .i64 (Dp.stamp r.1 r.2.1.root)))) := (HKG.out.trans (hSh.mono (fun _ _ e => e.elim))).next kset (fun i hi e => by omega)
   clear hld hq2 hS0 hSh kh hrh kset HRA HRG HOG HTG HKG
   generalize Dp.stamp r.1 r.2.1.root = ST at *
   go_wp2_with (first | (refine Dp.wpList_load_in rfl 126 _ rfl A 0 rfl 126 [] _ [] HRI.out rfl _ Tryz.underlying126 rfl (by rw [sizeAcc]; rfl) ?_; intro _) | (refine Dp.wpList_store_in rfl 126 _ _ rfl w.heap.size 0 rfl (Dp.accCells (.slice ada (xs.length + 1) capa) ST r.2.2) rfl 126 [] _ [] HRZ.out rfl rfl (by rw [sizeAcc]; rfl) (Dp.accCells_one _ _ _ rfl) ?_))
   intro wj rj zj kj
   have rj' : Dp.Row wj w.heap.size 126 (Dp.accCells (.slice ada (xs.length + 1) capa) ST r.2.2) := by simpa using rj
   go_wp2
   refine bodyPost_ret (v := .agg (Dp.accCells (.slice ada (xs.length + 1) capa) ST r.2.2).toArray) (results_cell_row rfl _ _ w.heap.size 126 _ (0, 0) _ rfl rj' Tryz.underlying126 rfl (by rw [sizeAcc]; rfl)) rfl ?_
   rw [HH3.out, Dp.after_some]
   have hzr : Dp.Row (wh.setCell ⟨A, 1, none⟩ (.int .i64 ST)) w.heap.size 126 (Dp.accCells (.slice none 0 0) 0 0) := by simpa using HRZ.out
   exact ⟨_, _, by rw [HT.out], HOI.out.keep kj (fun g hg e => by subst e; exact HOI.out.ne hzr (by decide) _ hg rfl), HTI.out.keep kj (fun g e hg _ => hg.ne hzr (by decide)), HVN.out, HKI.out.next kj (fun i hi e => by omega)⟩
  ·have heb : (r.2.2 == 0) = false := by rw [beq_eq_false_iff_ne]; exact hez
   have HT : Hid (Dp.toldBy (some r) = (0, r.2.2)) := by
    unfold Hid Dp.toldBy; simp only; rw [if_neg hez]
   have HRI := Hid.mk_ (Dp.row_nil hrA)
   have HRZ := Hid.mk_ (Dp.row_nil hRG)
   have hzr := hRG
   clear hez hCG hQG hrA hRG
   go_wp2_with (first | (refine Dp.wpList_load_in rfl 126 _ rfl A 0 rfl 126 [] _ [] HRI.out rfl _ Tryz.underlying126 rfl (by rw [sizeAcc]; rfl) ?_; intro _) | (refine Dp.wpList_store_in rfl 126 _ _ rfl w.heap.size 0 rfl (Dp.accCells (.slice ada (xs.length + 1) capa) 0 r.2.2) rfl 126 [] _ [] HRZ.out rfl rfl (by rw [sizeAcc]; rfl) (Dp.accCells_one _ _ _ rfl) ?_))
   intro wj rj zj kj
   have rj' : Dp.Row wj w.heap.size 126 (Dp.accCells (.slice ada (xs.length + 1) capa) 0 r.2.2) := by simpa using rj
   go_wp2
   refine bodyPost_ret (v := .agg (Dp.accCells (.slice ada (xs.length + 1) capa) 0 r.2.2).toArray) (results_cell_row rfl _ _ w.heap.size 126 _ (0, 0) _ rfl rj' Tryz.underlying126 rfl (by rw [sizeAcc]; rfl)) rfl ?_
   rw [HH3.out, Dp.after_some]
   exact ⟨_, _, by rw [HT.out], HOG.out.keep kj (fun g hg e => by subst e; exact HOG.out.ne hzr (by decide) _ hg rfl), HTG.out.keep kj (fun g e hg _ => hg.ne hzr (by decide)), HVN.out, HKG.out.next kj (fun i hi e => by omega)⟩
end Go.Proofs.YtdipojfngdceoaaGreatDoor
