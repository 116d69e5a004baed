/- Steps on the way: ProgDo, ProgWitness, ProgWitnessM, ProgParting. -/
import Derived.Test.YtdipojfngdceoaaGreatDoorShQ07
import Derived.Test.YtdipojfngdceoaaGreatDoorShQ09
import Derived.Test.YtdipojfngdceoaaGreatDoorShQ13
import Derived.Test.YtdipojfngdceoaaGreatDoorShQ19
import Derived.Test.YtdipojfngdceoaaGreatDoorShQ20
import Derived.Test.YtdipojfngdceoaaGreatDoorShQ30
import Derived.Test.YtdipojfngdceoaaGreatDoorShQ37
import Derived.Test.YtdipojfngdceoaaGreatDoorShQ40
import Derived.Laws.BytesArg
namespace Go.Proofs.YtdipojfngdceoaaGreatDoor
open Go.RowKit
namespace Dp
def deedCells (v : Value) (after e : Int) : List Value := [v, .int .i64 after, .int .i64 e]
theorem coreCells_ones (s : Cs) (mem : Value) (h : mem.oneCell' = true) : ∀ v ∈ coreCells s mem, v.oneCell' = true := by
 intro v hv
 rw [coreCells_state] at hv
 rcases List.mem_append.1 hv with hv | hv
 ·exact stateCells_one s v hv
 ·obtain rfl : v = mem := by simpa using hv
  exact h
theorem wp_append_Both {P : Program} {w : World} {o : Oper} {a : Act} {K : Act → World → Prop} {Q : Exit → Act → World → Prop} (s x : Operand) (t : TypeId)
  (ho : o.op = .call { callee := .builtin .append, args := #[s, x], argTypes := #[t, t] }) (e : TypeId) (z : Value) (bytes : Nat) (ht : P.underlying t = some (.slice e)) (hinfo : (P.info? e).map (fun i => (i.zero, i.size, i.bytes)) = some (some z, 1, bytes)) (hz1 : z.cells.size = 1)
  (v : Value) (xs : List Value) (hs : a.eval s = v) (hown : Own w e v xs) (vx : Value) (news : List Value) (hxv : a.eval x = vx) (hx : Own w e vx news) (h1 : ∀ u ∈ news, u.oneCell' = true) (h63 : xs.length + news.length ≤ maxLen) (hbytes : (xs.length + news.length) * bytes ≤ 140737488355328)
  (h : ∀ v' w', Own w' e v' (xs ++ news) → Keeps (fun k => v.ownBlock = some k) w w' → Hid (v'.ownBlock = v.ownBlock ∧ w'.heap.size = w.heap.size ∨ v'.ownBlock = some w.heap.size ∧ w'.heap.size = w.heap.size + 1) → K (a.put o.dst v') w') :
  o.wp P a w K Q := by
 obtain ⟨v', w', hr, h2, h3, h4⟩ := run_append_Both (P := P) w t o.type e z bytes ht hinfo hz1 v xs hown vx news hx h1 h63 hbytes
 unfold Oper.wp execOp
 simp only [ho, resolve, invoke, builtin, Sem.run_bind, Sem.run_pure, Result.andThen_ok, List.map_toArray, List.map_cons, List.map_nil, hs, hxv, hr]
 exact h v' w' h2 h3 h4
theorem recCells_one {vs : Value} {cells : List Int} (h : vs.oneCell' = true) : ∀ v ∈ memCells vs cells ++ ([.slice none 0 0] : List Value), v.oneCell' = true := by
 intro v hv
 simp only [memCells, wordCells, List.cons_append, List.mem_cons, List.mem_append, List.mem_map, List.not_mem_nil, or_false] at hv
 rcases hv with rfl | ⟨x, _, rfl⟩ | rfl
 ·exact h
 ·rfl
 ·rfl
end Dp
theorem zeroDeed : (Tryz.prog.info? 123).map (fun i => i.zero) = some (some (.agg (Dp.deedCells (.slice none 0 0) 0 0).toArray)) := by kernel_rfl
theorem sizeDeed : (Tryz.prog.info? 123).map (·.size) = some 3 := by kernel_rfl
theorem sizeRecord : (Tryz.prog.info? 157).map (·.size) = some 258 := by kernel_rfl
theorem zeroRecord : (Tryz.prog.info? 157).map (fun i => i.zero) = some (some (.agg (Dp.memCells (.slice none 0 0) (List.replicate 256 0) ++ ([.slice none 0 0] : List Value)).toArray)) := by kernel_rfl
theorem sizeCellsT : (Tryz.prog.info? 105).map (·.size) = some 257 := by kernel_rfl
theorem runLoadPS {w : World} {p : Nat} {e : TypeId} {s : Dp.Cs} {post : List Value} (h : Dp.Row w p e (Dp.stateCells s ++ post)) (hl : s.regs.length = 8) : (Instr.loadAt 100 (.pointer (some ⟨p, 0, none⟩))).run Tryz.prog w = .ok (.agg (Dp.stateCells s).toArray) w :=
 run_loadAt_mid w p 0 100 _ _ (Dp.Row.range (pre := []) h) Tryz.underlying100 rfl (by rw [sizePState, Dp.stateCells_length _ hl])
set_option maxRecDepth 100000 in
set_option maxHeartbeats 1000000 in
theorem progDo (G : Nat → Prop) (w : World) (s : Dp.Cs) (vs : Value) (cells : List Int) (srcs : List (List UInt8)) (hok : Dp.Mach.Ok ⟨s, cells, srcs⟩) (hs : s.Ok) (hl : cells.length = 256) (hw : ∀ x ∈ cells, Dp.isWord x) (hsl : ∀ l ∈ srcs, l.length ≤ 255) (hpi : Dp.PartsIn G w vs srcs) (hG : ∀ g, G g → g < w.heap.size) :
  Calls Tryz.prog 71 #[.agg (Dp.stateCells s).toArray, .agg (Dp.memCells vs cells).toArray] w fun e w' => ∃ v x, Dp.coreStep Dp.recordMemo s (cells, srcs, []) = some x ∧ e = .returned (.agg (Dp.deedCells v (Dp.stamp x.1 (Dp.root x.2.1.1)) x.2.2).toArray) ∧ Dp.Own w' 5 v (Dp.vals (Dp.label s (Dp.root cells) ++ x.2.1.2.2)) ∧ (∀ g, v.ownBlock = some g → w.heap.size ≤ g) ∧ Dp.Keeps (fun _ => False) w w' := by
 have HMS : Hid ((Dp.stateCells s).length = 12) := Dp.stateCells_length s hs.len
 have HMM : Hid ((Dp.memCells vs cells).length = 257) := by unfold Hid; simp [Dp.memCells, Dp.wordCells, hl]
 have HOKX : Hid (∀ x, Dp.coreStep Dp.recordMemo s (cells, srcs, []) = some x → x.1.Ok) := by
  intro x hx
  obtain ⟨y, h1, _⟩ := Dp.coreStep_record ⟨s, cells, srcs⟩ []
  have h2 : Dp.coreStep Dp.recordMemo s (cells, srcs, []) = _ := h1
  rw [hx] at h2
  have h3 := Option.some.inj h2
  rw [h3]
  exact hok.step.s
 go_enter Tryz.func71, Tryz.ntmps71
 go_wp2_with (refine Dp.wpList_box_row rfl 100 _ rfl (Dp.stateCells s) rfl ?_)
 intro w1 r1 z1 k1
 go_wp2_with (refine Dp.wpList_box_row rfl 105 _ rfl (Dp.memCells vs cells) rfl ?_)
 intro w2 r2 z2 k2
 go_wp2_with (refine Dp.wpList_alloc_row rfl 123 rfl _ zeroDeed ?_)
 intro w3 r3 z3 k3
 have hrs := (r1.keep k2 (fun e => e)).keep k3 (fun e => e)
 have hrc := r2.keep k3 (fun e => e)
 have HRS := Hid.mk_ hrs
 have HRC : Hid (Dp.Row w3 (w.heap.size + 1) 105 ([] ++ Dp.memCells vs cells ++ [])) := Dp.row_nil hrc
 have HRD : Hid (Dp.Row w3 (w.heap.size + 1 + 1) 123 (Dp.deedCells (.slice none 0 0) 0 0)) := by unfold Hid; exact r3
 have HK3 := Hid.mk_ ((k1.trans k2).trans k3)
 have HZ3 : Hid (w3.heap.size = w.heap.size + 1 + 1 + 1) := by unfold Hid; omega
 clear hrs hrc r1 r2 r3 k1 k2 k3 z1 z2 z3
 have HLD : Hid (∀ wx, Dp.Keeps (fun _ => False) w3 wx → (Instr.loadAt 100 (.pointer (some ⟨w.heap.size, 0, none⟩))).run Tryz.prog wx = .ok (.agg (Dp.stateCells s).toArray) wx) := fun wx kx => runLoadPS (post := []) (by rw [List.append_nil]; exact HRS.out.keep kx (fun e => e)) hs.len
 have hS0 : Dp.Keeps (fun _ => False) w3 w3.drew := (Dp.Keeps.refl _ _).drew
 have HRB := Hid.mk_ (Dp.root_bd cells)
 go_wp2
 refine Dp.wp_region_L (fun wx => Dp.Keeps (fun _ => False) w3 wx) 3 mixedP ?_
 refine' Dp.tk (v := .agg (Dp.stateCells s).toArray) 0 ?hyp0 hS0 ?restp0
 case hyp0 => intro wx hSx; exact Dp.run_load_op rfl rfl (HLD.out wx hSx)
 simp only [Act.put, Dp.tks]
 refine Dp.wpAnyL_one 1 rfl (by kernel_rfl) (by rfl) (fun K hK => ?_)
 go_simp
 refine (progRoot _ (w.heap.size + 1) 0 105 [] [] vs cells hl (HRC.out.keep hS0 (fun e => e)) rfl hw).mono ?_
 rintro e w4 ⟨rfl, k4⟩
 have hS4 := hS0.trans k4
 refine hK _ _ ⟨fun _ => hS4, ?_⟩
 clear hK K
 refine Dp.wpAnyL_one 2 rfl (by kernel_rfl) (by rfl) (fun K hK => ?_)
 go_simp
 refine (progLabel s (Dp.root cells) _ hs (by have := HRB.out; omega)).mono ?_
 rintro e w5 ⟨⟨vl, rfl, ol, fl⟩, k5⟩
 have hS5 := hS4.trans k5
 refine hK _ _ ⟨fun _ => hS5, ?_⟩
 clear hK K
 refine Dp.wpAnyL_rest (by kernel_rfl) ?_
 refine Dp.wpAny_tail 3 rfl (by kernel_rfl) ?_
 simp only [List.drop_succ_cons, List.drop_zero]
 obtain ⟨la, lc, el⟩ := ol.isSlice
 subst el
 have HLL : Hid ((Dp.vals (Dp.label s (Dp.root cells))).length = 47) := by unfold Hid; rw [Dp.vals_length]; exact Dp.label_length _ _ hs.len
 rw [HLL.out] at ol fl ⊢
 have HOL := Hid.mk_ ol
 have HFL : Hid (∀ g, (Value.slice la 47 lc).ownBlock = some g → w3.heap.size ≤ g) := fun g hg => by have := fl g hg; have := hS4.size; omega
 have HRS5 := Hid.mk_ (HRS.out.keep hS5 (fun e => e))
 have HRC5 := Hid.mk_ (HRC.out.keep hS5 (fun e => e))
 have HRD5 := Hid.mk_ (HRD.out.keep hS5 (fun e => e))
 have HK5 := Hid.mk_ (HK3.out.trans hS5)
 have HZ5 : Hid (w.heap.size + 1 + 1 + 1 ≤ w5.heap.size) := by have := hS5.size; have := HZ3.out; unfold Hid; omega
 clear ol fl hS5 hS4 hS0 k4 k5 HLD HRS HRC HRD HK3
 generalize hLB : Dp.label s (Dp.root cells) = LB at *
 have HLB := Hid.mk_ hLB
 clear hLB
 have HBR : Hid (∀ wx, (Instr.build 157 #[(0, .agg (Dp.memCells vs cells).toArray)]).run Tryz.prog wx = .ok (.agg (Dp.memCells vs cells ++ ([.slice none 0 0] : List Value)).toArray) wx) := by
  intro wx
  have hfill : Instr.fill ((#[(0, 257), (257, 1)] : Array (Nat × Nat))[·]?) (Dp.memCells (.slice none 0 0) (List.replicate 256 0) ++ ([.slice none 0 0] : List Value)).toArray [(0, .agg (Dp.memCells vs cells).toArray)] = some (Dp.memCells vs cells ++ ([.slice none 0 0] : List Value)).toArray := by
   have h := Dp.fill_part ((#[(0, 257), (257, 1)] : Array (Nat × Nat))[·]?) 0 0 [] (Dp.memCells (.slice none 0 0) (List.replicate 256 0)) [.slice none 0 0] (Dp.memCells vs cells) (by rw [HMM.out]; rfl) (by rw [HMM.out]; rfl) rfl
   simpa using h
  have e : (Instr.build 157 #[(0, .agg (Dp.memCells vs cells).toArray)]).run Tryz.prog wx = (match Instr.fill ((#[(0, 257), (257, 1)] : Array (Nat × Nat))[·]?) (Dp.memCells (.slice none 0 0) (List.replicate 256 0) ++ ([.slice none 0 0] : List Value)).toArray [(0, .agg (Dp.memCells vs cells).toArray)] with
   | some cells => (pure (.agg cells) : Sem Value)
   | _ => stuck "build: no such field, or a part of the wrong size").run Tryz.prog wx := by kernel_rfl
  rw [e, hfill]
  rfl
 go_wp2_with (first | (refine Dp.wpList_load_in rfl 105 _ rfl (w.heap.size + 1) 0 rfl 105 [] _ [] HRC5.out rfl _ Tryz.underlying105 rfl (by rw [sizeCellsT, HMM.out]) ?_; intro _) | (refine Dp.wpList_build_one rfl 157 0 _ rfl (.agg (Dp.memCells vs cells).toArray) (.agg (Dp.memCells vs cells ++ ([.slice none 0 0] : List Value)).toArray) rfl (HBR.out _) ?_; intro _) | (refine Dp.wpList_alloc_row rfl 157 rfl _ zeroRecord ?_))
 intro w6 r6 z6 k6
 generalize hq : w5.heap.size = q at *
 have HOQ : Hid (∀ g, (Value.slice la 47 lc).ownBlock = some g → g < q) := fun g hg => by have := HOL.out.lt g hg; omega
 have HR6 : Hid (Dp.Row w6 q 157 ([] ++ (Dp.memCells (.slice none 0 0) (List.replicate 256 0) ++ ([.slice none 0 0] : List Value)) ++ [])) := Dp.row_nil r6
 have HML : Hid ((Dp.memCells vs cells ++ ([.slice none 0 0] : List Value)).length = 258) := by unfold Hid; rw [List.length_append, HMM.out]; rfl
 have HM1 : Hid (vs.oneCell' = true) := by obtain ⟨_, _, _, _, e, _⟩ := hpi; rw [e]; rfl
 clear r6
 go_wp2_with (refine Dp.wpList_store_in rfl 157 _ _ rfl q 0 rfl (Dp.memCells vs cells ++ ([.slice none 0 0] : List Value)) rfl 157 [] (Dp.memCells (.slice none 0 0) (List.replicate 256 0) ++ ([.slice none 0 0] : List Value)) [] HR6.out rfl (HML.out.trans rfl) (by rw [sizeRecord, HML.out]) (Dp.recCells_one HM1.out) ?_)
 intro w7 r7 z7 k7
 have HQ : Hid (w.heap.size + 1 + 1 + 1 ≤ q) := HZ5.out
 have hqq := HQ.out
 have k67 : Dp.Keeps (fun _ => False) w5 w7 := k6.next k7 (fun i hi e => by omega)
 have HR7 : Hid (Dp.Row w7 q 157 (Dp.memCells vs cells ++ ([.slice none 0 0] : List Value))) := by unfold Hid; simpa using r7
 have HRS7 : Hid (Dp.Row w7 w.heap.size 100 ([] ++ Dp.stateCells s ++ [])) := Dp.row_nil (HRS5.out.keep k67 (fun e => e))
 have HRD7 := Hid.mk_ (HRD5.out.keep k67 (fun e => e))
 have HOL7 := Hid.mk_ (HOL.out.keep k67 (fun _ _ e => e))
 have HK7 := Hid.mk_ (HK5.out.trans k67)
 have z7' : w7.heap.size = q + 1 := by omega
 clear r7 z7 k7 k6 z6 k67 HR6 HRS5 HRC5 HRD5 HOL HK5 HBR
 have HBD : Hid (∀ wx, (Instr.build 137 #[(0, .agg (Dp.stateCells s).toArray), (1, .iface 158 (.pointer (some ⟨q, 0, none⟩)))]).run Tryz.prog wx = .ok (.agg (Dp.coreCells s (.iface 158 (.pointer (some ⟨q, 0, none⟩)))).toArray) wx) := by
  intro wx
  obtain ⟨a, b, c, d, rg⟩ := s
  obtain ⟨x0, x1, x2, x3, x4, x5, x6, x7, hx⟩ := Dp.list8 hs.len
  simp only at hx
  subst hx
  kernel_rfl
 have HMC : Hid ((Dp.coreCells s (.iface 158 (.pointer (some ⟨q, 0, none⟩)))).length = 13) := by unfold Hid; rw [Dp.coreCells_state, List.length_append, HMS.out]; rfl
 go_wp2_with (first | (refine Dp.wpList_load_in rfl 100 _ rfl w.heap.size 0 rfl 100 [] _ [] HRS7.out rfl _ Tryz.underlying100 rfl (by rw [sizePState, HMS.out]) ?_; intro _) | (refine Dp.wpList_build_two rfl 137 0 1 _ _ rfl (.agg (Dp.stateCells s).toArray) (.iface 158 (.pointer (some ⟨q, 0, none⟩))) (.agg (Dp.coreCells s (.iface 158 (.pointer (some ⟨q, 0, none⟩)))).toArray) rfl rfl (HBD.out _) ?_; intro _) | (refine Dp.wpList_alloc_row rfl 137 rfl _ zeroCore ?_))
 intro w8 r8 z8 k8
 have HR8 : Hid (Dp.Row w8 (q + 1) 137 ([] ++ Dp.coreCells ⟨0, 0, 0, false, [0, 0, 0, 0, 0, 0, 0, 0]⟩ .nilIface ++ [])) := by unfold Hid; rw [List.append_nil, List.nil_append]; first | exact r8 | (rw [← z7']; exact r8)
 go_wp2_with (refine Dp.wpList_store_in rfl 137 _ _ rfl (q + 1) 0 rfl (Dp.coreCells s (.iface 158 (.pointer (some ⟨q, 0, none⟩)))) rfl 137 [] (Dp.coreCells ⟨0, 0, 0, false, [0, 0, 0, 0, 0, 0, 0, 0]⟩ .nilIface) [] HR8.out rfl (HMC.out.trans rfl) (by rw [sizeCore, HMC.out]) (Dp.coreCells_ones _ _ rfl) ?_)
 intro wb rb zb kb
 have k8b : Dp.Keeps (fun _ => False) w7 wb := k8.next kb (fun i hi e => by omega)
 have rcb : Dp.Row wb (q + 1) 137 (Dp.coreCells s (.iface 158 (.pointer (some ⟨q, 0, none⟩)))) := by simpa using rb
 have HRB7 := Hid.mk_ (HR7.out.keep k8b (fun e => e))
 have HRDB := Hid.mk_ (HRD7.out.keep k8b (fun e => e))
 have HOLB := Hid.mk_ (HOL7.out.keep k8b (fun _ _ e => e))
 have HKB := Hid.mk_ (HK7.out.trans k8b)
 have zzb : wb.heap.size = q + 1 + 1 := by omega
 have hI : Dp.RecInv G wb (q + 1) q 0 wb (cells, srcs, []) := by
  refine ⟨hl, hw, Nat.le_refl _, hsl, by omega, by omega, by omega, fun g hg => ?_, Dp.Keeps.refl _ _, vs, _, HRB7.out, hpi.keep HKB.out (fun g hg => ⟨hG g hg, fun e => e⟩), Dp.Own.nil _ _, fun g hg => by simp [Value.ownBlock] at hg⟩
  have := hG g hg
  exact ⟨by omega, by omega, by omega⟩
 clear r8 z8 k8 rb zb kb k8b HR8 HRS7 HRD7 HOL7 HK7 HR7 HBD
 go_wp2_with fail
 refine (progStep Dp.recordMemo (Dp.RecF q) (Dp.RecInv G wb (q + 1) q 0) (Dp.RecInv G wb (q + 1) q (0 + 300)) (Dp.RecInv G wb (q + 1) q (0 + 300 + 300)) (fun _ => False) [] 158 (.pointer (some ⟨q, 0, none⟩)) s (q + 1) wb (cells, srcs, []) hs (Dp.recordOk G wb (q + 1) q 0 (by omega)) (Dp.recordOk G wb (q + 1) q (0 + 300) (by omega)) rcb hI).mono ?_
 intro e wc hc
 clear hI rcb
 cases hcs : Dp.coreStep Dp.recordMemo s (cells, srcs, []) with
 | none =>
  rw [hcs, Dp.after_none] at hc
  exact hc.2.elim
 | some x =>
  rw [hcs, Dp.after_some] at hc
  obtain ⟨rfl, rcc, hIc⟩ := hc
  have HXO : Hid x.1.Ok := HOKX.out x hcs
  have HCS := Hid.mk_ hcs
  clear hcs
  obtain ⟨vs', vsh, hrw, hpw, how, hnw⟩ := hIc.row
  have hkc := hIc.frame
  have hfar : ∀ g, (Value.slice la 47 lc).ownBlock = some g → ¬ (g = q ∨ g = q + 1) := fun g hg e => by have := HOQ.out g hg; omega
  have HWC : Hid (w.heap.size + 1 + 1 + 1 ≤ wc.heap.size) := by have := hkc.size; have := HQ.out; unfold Hid; omega
  have HOC := Hid.mk_ (HOLB.out.keep hkc hfar)
  have HRDC := Hid.mk_ (HRDB.out.keep hkc (by omega))
  have HKC : Hid (Dp.Keeps (fun _ => False) w wc) := HKB.out.next hkc (fun i hi e => by omega)
  obtain ⟨sa, sc, esh⟩ := how.isSlice
  subst esh
  generalize hSN : (Dp.vals x.2.1.2.2).length = SN at *
  have HSN := Hid.mk_ hSN
  have HSS := Hid.mk_ hIc.short
  have HW := Hid.mk_ how
  have HNW := Hid.mk_ hnw
  have hS0 : Dp.Keeps (fun i => (Value.slice la 47 lc).ownBlock = some i) wc wc.drew := (Dp.Keeps.refl _ _).drew
  have HLE : Hid ((Dp.memCells vs' x.2.1.1).length = 257) := by unfold Hid; simp [Dp.memCells, Dp.wordCells, hIc.len]
  have HRX : Hid (∀ wx, Dp.Keeps (fun i => (Value.slice la 47 lc).ownBlock = some i) wc wx → Dp.Row wx q 157 ([] ++ Dp.memCells vs' x.2.1.1 ++ [.slice sa SN sc])) := fun wx kx => hrw.keep kx (fun e => hfar q e (.inl rfl))
  have c257 : ∀ wx, Dp.Keeps (fun i => (Value.slice la 47 lc).ownBlock = some i) wc wx → wx.cell? ⟨q, 257, none⟩ = some (.slice sa SN sc) := fun wx kx => by
   rw [(HRX.out wx kx).cell, List.nil_append, List.getElem?_append_right (by rw [HLE.out]; omega), HLE.out]; rfl
  have HLX : Hid (∀ wx, Dp.Keeps (fun i => (Value.slice la 47 lc).ownBlock = some i) wc wx → (Instr.loadAt 100 (.pointer (some ⟨q + 1, 0, none⟩))).run Tryz.prog wx = .ok (.agg (Dp.stateCells x.1).toArray) wx) := fun wx kx => runLoadPS (post := [.iface 158 (.pointer (some ⟨q, 0, none⟩))]) (by rw [← Dp.coreCells_state]; exact rcc.keep kx (fun e => hfar (q + 1) e (.inr rfl))) HXO.out.len
  have HXL : Hid (x.2.1.1.length = 256 ∧ ∀ y ∈ x.2.1.1, Dp.isWord y) := ⟨hIc.len, hIc.words⟩
  clear hIc hrw hpw how hnw rcc hkc hSN
  go_wp2
  refine Dp.wp_region_L (fun wx => Dp.Keeps (fun i => (Value.slice la 47 lc).ownBlock = some i) wc wx) 10 mixedP ?_
  refine' Dp.tj 0 hS0 ?_
  simp only [Act.put, Dp.tks]
  refine' Dp.tj 1 hS0 ?_
  simp only [Act.put, Dp.tks]
  refine' Dp.tj 2 hS0 ?_
  simp only [Act.put, Dp.tks]
  refine' Dp.tj 4 hS0 ?_
  simp only [Act.put, Dp.tks]
  refine' Dp.tk (v := .agg (Dp.stateCells x.1).toArray) 5 ?hyp5 hS0 ?restp5
  case hyp5 => intro wx hSx; exact Dp.run_load_op rfl rfl (HLX.out wx hSx)
  simp only [Act.put, Dp.tks]
  refine' Dp.tj 6 hS0 ?_
  simp only [Act.put, Dp.tks]
  refine' Dp.tj 9 hS0 ?_
  simp only [Act.put, Dp.tks]
  refine Dp.wpAnyL_one 3 rfl (by kernel_rfl) (by rfl) (fun K hK => ?_)
  have HRBX := Hid.mk_ (Dp.root_bd x.2.1.1)
  refine Dp.wp_append_Both _ _ 47 rfl 5 (.int .u8 0) 1 Tryz.underlying47 infoU8 rfl (.slice la 47 lc) (Dp.vals LB) rfl (HOC.out.keep (Dp.Keeps.refl (fun _ => False) wc).drew (fun _ _ e => e)) (.slice sa SN sc) (Dp.vals x.2.1.2.2) rfl (HW.out.keep (Dp.Keeps.refl (fun _ => False) wc).drew (fun _ _ e => e)) (Dp.vals_one _) (by have := HSS.out; rw [HLL.out, Dp.vals_length]; unfold maxLen; omega) (by have := HSS.out; rw [HLL.out, Dp.vals_length]; omega) ?_
  intro v1 wd od kd sd
  rw [Dp.vals_append] at od
  have hS1 := hS0.trans kd
  refine hK _ _ ⟨fun _ => hS1, ?_⟩
  clear hK K
  simp only [Act.put, Dp.tks]
  have HFD : Hid (∀ g, v1.ownBlock = some g → w.heap.size + 1 + 1 + 1 ≤ g) := fun g hg => by
   rcases sd.out with hh | hh
   ·have := HFL.out g (hh.1 ▸ hg); have := HZ3.out; omega
   ·rw [hh.1] at hg
    have e : wc.heap.size = g := by simpa using hg
    have := HKC.out.size
    have := HWC.out
    omega
  obtain ⟨va, vc, ev⟩ := od.isSlice
  subst ev
  generalize (Dp.vals (LB ++ x.2.1.2.2)).length = VN at *
  have HOD := Hid.mk_ od
  clear od sd kd
  refine Dp.wpAnyL_one 7 rfl (by kernel_rfl) (by rfl) (fun K hK => ?_)
  go_simp
  refine (progRoot _ q 0 157 [] [.slice sa SN sc] vs' x.2.1.1 HXL.out.1 (HRX.out _ hS1) rfl HXL.out.2).mono ?_
  rintro e we ⟨rfl, ke⟩
  have hS2 := hS1.next ke (fun _ _ e => e.elim)
  refine hK _ _ ⟨fun _ => hS2, ?_⟩
  clear hK K
  refine Dp.wpAnyL_one 8 rfl (by kernel_rfl) (by rfl) (fun K hK => ?_)
  go_simp
  refine (progSStamp x.1 (Dp.root x.2.1.1) _ HXO.out (by have := HRBX.out; omega)).mono ?_
  rintro e wf ⟨rfl, kf⟩
  have hS3 := hS2.next kf (fun _ _ e => e.elim)
  refine hK _ _ ⟨fun _ => hS3, ?_⟩
  clear hK K
  refine Dp.wpAnyL_rest (by kernel_rfl) ?_
  refine Dp.wpAny_tail 10 rfl (by kernel_rfl) ?_
  simp only [List.drop_succ_cons, List.drop_zero]
  have kef := ke.trans kf
  have HOF := Hid.mk_ (HOD.out.keep kef (fun _ _ e => e))
  have HRDF : Hid (Dp.Row wf (w.heap.size + 1 + 1) 123 ([] ++ Dp.deedCells (.slice none 0 0) 0 0 ++ [])) := Dp.row_nil (HRDC.out.keep hS3 (fun e => by have := HFL.out _ e; have := HZ3.out; omega))
  have HKF : Hid (Dp.Keeps (fun _ => False) w wf) := HKC.out.next hS3 (fun i hi e => by have := HFL.out i e; have := HZ3.out; omega)
  clear hS3 hS2 hS1 hS0 ke kf kef c257 HRX HLX HOD HOC HRDC HKC HOLB HRDB HKB
  generalize hST : Dp.stamp x.1 (Dp.root x.2.1.1) = ST at *
  have HST := Hid.mk_ hST
  clear hST
  generalize hRX : Dp.root x.2.1.1 = RX at *
  have HRX2 := Hid.mk_ hRX
  clear hRX
  go_wp2_with (refine Dp.wpList_store_in rfl 123 _ _ rfl (w.heap.size + 1 + 1) 0 rfl (Dp.deedCells (.slice va VN vc) ST x.2.2) rfl 123 [] (Dp.deedCells (.slice none 0 0) 0 0) [] HRDF.out rfl rfl (by rw [sizeDeed]; rfl) (by intro v hv; simp [Dp.deedCells] at hv; rcases hv with rfl | rfl | rfl <;> rfl) ?_)
  intro wg rg zg kg
  have rg' : Dp.Row wg (w.heap.size + 1 + 1) 123 (Dp.deedCells (.slice va VN vc) ST x.2.2) := by simpa using rg
  go_wp2
  refine bodyPost_ret (v := .agg (Dp.deedCells (.slice va VN vc) ST x.2.2).toArray) (results_cell_row rfl _ _ (w.heap.size + 1 + 1) 123 _ (0, 0) _ rfl rg' Tryz.underlying123 rfl (by rw [sizeDeed]; rfl)) rfl ?_
  refine ⟨.slice va VN vc, x, HCS.out, ?_, ?_, fun g hg => by have := HFD.out g hg; omega, HKF.out.next kg (fun i hi e => by omega)⟩
  ·rw [HRX2.out, HST.out]
  ·rw [HLB.out]
   exact HOF.out.keep kg (fun g hg e => by have := HFD.out g hg; omega)
namespace Dp
def witnessOf (m : Mach) : List UInt8 := if m.step.2 ≠ 0 then [] else label m.s (root m.cells) ++ shown m
theorem coreStep_shown (m : Mach) : coreStep recordMemo m.s (m.cells, m.srcs, []) = some (m.step.1.s, (m.step.1.cells, m.step.1.srcs, shown m), m.step.2) := by
 obtain ⟨x, h, _⟩ := coreStep_record m []
 have e : shown m = [] ++ x := by unfold shown; rw [h]
 rw [h, e]
end Dp
set_option maxRecDepth 100000 in
set_option maxHeartbeats 1000000 in
theorem progVWitness (G : Nat → Prop) (w : World) (m : Dp.Mach) (vs : Value) (hok : m.Ok) (hpi : Dp.PartsIn G w vs m.srcs) (hG : ∀ g, G g → g < w.heap.size) :
  Calls Tryz.prog 47 #[.agg (Dp.stateCells m.s).toArray, .agg (Dp.memCells vs m.cells).toArray] w fun e w' => ∃ v, e = .returned (.tuple #[v, .int .i64 m.step.2]) ∧ Dp.Own w' 5 v (Dp.vals (Dp.witnessOf m)) ∧ (∀ g, v.ownBlock = some g → w.heap.size ≤ g) ∧ Dp.Keeps (fun _ => False) w w' := by
 have HMS : Hid ((Dp.stateCells m.s).length = 12) := Dp.stateCells_length m.s hok.s.len
 have HMM : Hid ((Dp.memCells vs m.cells).length = 257) := by unfold Hid; simp [Dp.memCells, Dp.wordCells, hok.len]
 have HDO : Hid (∀ wx, Dp.Keeps (fun _ => False) w wx → Calls Tryz.prog 71 #[.agg (Dp.stateCells m.s).toArray, .agg (Dp.memCells vs m.cells).toArray] wx fun e w' => ∃ v, e = .returned (.agg (Dp.deedCells v (Dp.stamp m.step.1.s (Dp.root m.step.1.cells)) m.step.2).toArray) ∧ Dp.Own w' 5 v (Dp.vals (Dp.label m.s (Dp.root m.cells) ++ Dp.shown m)) ∧ (∀ g, v.ownBlock = some g → wx.heap.size ≤ g) ∧ Dp.Keeps (fun _ => False) wx w') := by
  intro wx kx
  refine (progDo G wx m.s vs m.cells m.srcs hok hok.s hok.len hok.cells (fun l hl => by have := hok.src l hl; omega) (hpi.keep kx (fun g hg => ⟨hG g hg, fun e => e⟩)) (fun g hg => Nat.lt_of_lt_of_le (hG g hg) kx.size)).mono ?_
  rintro e w' ⟨v, x, hx, he, ho, hf, hk⟩
  rw [Dp.coreStep_shown] at hx
  have hx' := Option.some.inj hx
  subst hx'
  exact ⟨v, he, ho, hf, hk⟩
 have HWO : Hid (Dp.witnessOf m = if m.step.2 ≠ 0 then [] else Dp.label m.s (Dp.root m.cells) ++ Dp.shown m) := rfl
 generalize Dp.label m.s (Dp.root m.cells) ++ Dp.shown m = X at *
 generalize Dp.stamp m.step.1.s (Dp.root m.step.1.cells) = ST at *
 generalize m.step.2 = E at *
 go_enter Tryz.func47, Tryz.ntmps47
 go_wp2_with (refine Dp.wpList_box_row rfl 100 _ rfl (Dp.stateCells m.s) rfl ?_)
 intro w1 r1 z1 k1
 go_wp2_with (refine Dp.wpList_box_row rfl 105 _ rfl (Dp.memCells vs m.cells) rfl ?_)
 intro w2 r2 z2 k2
 have HRS : Hid (Dp.Row w2 w.heap.size 100 ([] ++ Dp.stateCells m.s ++ [])) := Dp.row_nil (r1.keep k2 (fun e => e))
 have HRC : Hid (Dp.Row w2 (w.heap.size + 1) 105 ([] ++ Dp.memCells vs m.cells ++ [])) := Dp.row_nil r2
 have HK2 := Hid.mk_ (k1.trans k2)
 clear r1 r2 k1 k2 z1 z2
 go_wp2_with (first | (refine Dp.wpList_load_in rfl 100 _ rfl w.heap.size 0 rfl 100 [] _ [] HRS.out rfl _ Tryz.underlying100 rfl (by rw [sizePState, HMS.out]) ?_; intro _) | (refine Dp.wpList_load_in rfl 105 _ rfl (w.heap.size + 1) 0 rfl 105 [] _ [] HRC.out rfl _ Tryz.underlying105 rfl (by rw [sizeCellsT, HMM.out]) ?_; intro _))
 refine (HDO.out _ HK2.out).mono ?_
 rintro e w3 ⟨v, rfl, ho, hf, k3⟩
 have HO3 := Hid.mk_ ho
 have HF3 : Hid (∀ g, v.ownBlock = some g → w.heap.size ≤ g) := fun g hg => by have := hf g hg; have := HK2.out.size; omega
 have HK3 := Hid.mk_ (HK2.out.trans k3)
 obtain ⟨va, vc, ev⟩ := ho.isSlice
 subst ev
 generalize (Dp.vals X).length = N at *
 clear ho hf k3 HRS HRC HK2
 go_wp2_with (refine Dp.wpList_alloc_row rfl 123 rfl _ zeroDeed ?_)
 intro w4 r4 z4 k4
 have HR4 := Hid.mk_ (Dp.row_nil r4)
 clear r4
 go_wp2_with (refine Dp.wpList_store_in rfl 123 _ _ rfl w3.heap.size 0 rfl (Dp.deedCells (.slice va N vc) ST E) rfl 123 [] (Dp.deedCells (.slice none 0 0) 0 0) [] HR4.out rfl rfl (by rw [sizeDeed]; rfl) (by intro v hv; simp [Dp.deedCells] at hv; rcases hv with rfl | rfl | rfl <;> rfl) ?_)
 intro w5 r5 z5 k5
 have r5' : Dp.Row w5 w3.heap.size 123 (Dp.deedCells (.slice va N vc) ST E) := by simpa using r5
 have k35 : Dp.Keeps (fun _ => False) w3 w5 := k4.next k5 (fun i hi e => by omega)
 have HO5 := Hid.mk_ (HO3.out.keep k35 (fun _ _ e => e))
 have HK5 := Hid.mk_ (HK3.out.trans k35)
 have c0 : w5.cell? ⟨w3.heap.size, 0, none⟩ = some (.slice va N vc) := r5'.cell 0
 have c2 : w5.cell? ⟨w3.heap.size, 2, none⟩ = some (.int .i64 E) := r5'.cell 2
 have d2 : w5.drew.cell? ⟨w3.heap.size, 2, none⟩ = some (.int .i64 E) := r5'.drew.cell 2
 clear r5 r5' k4 k5 k35 z4 z5 HR4 HO3 HK3
 by_cases hE : E = 0
 ·have hg : (E != 0) = false := by simp [hE]
  have HE0 := Hid.mk_ hE
  clear hE
  go_wp2
  go_ret2
  rw [HE0.out]
  refine ⟨_, rfl, ?_, HF3.out, HK5.out⟩
  rw [HWO.out, if_neg (by simpa using HE0.out)]
  exact HO5.out
 ·have hg : (E != 0) = true := by simpa using hE
  go_wp2
  go_region
  go_wp2
  go_ret2
  refine ⟨_, rfl, ?_, fun g hg => by simp [Value.ownBlock] at hg, HK5.out.drew⟩
  rw [HWO.out, if_pos hE]
  exact Dp.Own.nil _ _
theorem runLoadMem {w : World} {p o : Nat} {e : TypeId} {pre post : List Value} {vs : Value} {cells : List Int} (h : Dp.Row w p e (pre ++ Dp.memCells vs cells ++ post)) (ho : pre.length = o) (hl : cells.length = 256) : (Instr.loadAt 105 (.pointer (some ⟨p, o, none⟩))).run Tryz.prog w = .ok (.agg (Dp.memCells vs cells).toArray) w :=
 run_loadAt_mid w p o 105 _ _ (ho ▸ Dp.Row.range (pre := pre) h) Tryz.underlying105 rfl (by rw [sizeCellsT]; simp [Dp.memCells, Dp.wordCells, hl])
set_option maxRecDepth 100000 in
set_option maxHeartbeats 1000000 in
theorem progMWitness (w : World) (b : Nat) (G : Nat → Prop) (vs : Value) (m : Dp.Mach) (h : Dp.ProgM w b G vs m) :
  Calls Tryz.prog 18 #[.pointer (some ⟨b, 0, none⟩)] w fun e w' => ∃ v, e = .returned (.tuple #[v, .int .i64 m.step.2]) ∧ Dp.Own w' 5 v (Dp.vals (Dp.witnessOf m)) ∧ (∀ g, v.ownBlock = some g → w.heap.size ≤ g) ∧ Dp.Keeps (fun _ => False) w w' := by
 have H := Hid.mk_ h
 have hS0 : Dp.Keeps (fun _ => False) w w.drew := (Dp.Keeps.refl _ _).drew
 have HL0 : Hid (∀ wx, Dp.Keeps (fun _ => False) w wx → (Instr.loadAt 100 (.pointer (some ⟨b, 0, none⟩))).run Tryz.prog wx = .ok (.agg (Dp.stateCells m.s).toArray) wx) := fun wx kx => runLoadPS (h.row.keep kx (fun e => e)) h.ok.s.len
 have HL1 : Hid (∀ wx, Dp.Keeps (fun _ => False) w wx → (Instr.loadAt 105 (.pointer (some ⟨b, 12, none⟩))).run Tryz.prog wx = .ok (.agg (Dp.memCells vs m.cells).toArray) wx) := fun wx kx => runLoadMem (post := []) (by rw [List.append_nil]; exact h.row.keep kx (fun e => e)) (Dp.stateCells_length _ h.ok.s.len) h.ok.len
 have HW : Hid (∀ wx, Dp.Keeps (fun _ => False) w wx → Calls Tryz.prog 47 #[.agg (Dp.stateCells m.s).toArray, .agg (Dp.memCells vs m.cells).toArray] wx fun e w' => ∃ v, e = .returned (.tuple #[v, .int .i64 m.step.2]) ∧ Dp.Own w' 5 v (Dp.vals (Dp.witnessOf m)) ∧ (∀ g, v.ownBlock = some g → wx.heap.size ≤ g) ∧ Dp.Keeps (fun _ => False) wx w') :=
  fun wx kx => progVWitness G wx m vs h.ok (h.src.keep kx (fun g hg => ⟨(h.own g hg).1, fun e => e⟩)) (fun g hg => Nat.lt_of_lt_of_le (h.own g hg).1 kx.size)
 clear h
 generalize m.step.2 = E at *
 generalize Dp.witnessOf m = X at *
 go_enter Tryz.func18, Tryz.ntmps18
 go_wp2
 refine Dp.wp_region_L (fun wx => Dp.Keeps (fun _ => False) w wx) 8 mixedP ?_
 refine' Dp.tj 0 hS0 ?_
 simp only [Act.put, Dp.tks]
 refine' Dp.tj 1 hS0 ?_
 simp only [Act.put, Dp.tks]
 refine' Dp.tj 2 hS0 ?_
 simp only [Act.put, Dp.tks]
 refine' Dp.tk (v := .agg (Dp.stateCells m.s).toArray) 3 ?hyp3 hS0 ?restp3
 case hyp3 => intro wx hSx; exact Dp.run_load_op rfl rfl (HL0.out wx hSx)
 simp only [Act.put, Dp.tks]
 refine' Dp.tj 4 hS0 ?_
 simp only [Act.put, Dp.tks]
 refine' Dp.tj 5 hS0 ?_
 simp only [Act.put, Dp.tks]
 refine' Dp.tj 6 hS0 ?_
 simp only [Act.put, Dp.tks]
 refine' Dp.tk (v := .agg (Dp.memCells vs m.cells).toArray) 7 ?hyp7 hS0 ?restp7
 case hyp7 => intro wx hSx; exact Dp.run_load_op rfl rfl (HL1.out wx hSx)
 simp only [Act.put, Dp.tks]
 refine Dp.wpAnyL_one 8 rfl (by kernel_rfl) (by rfl) (fun K hK => ?_)
 go_simp
 refine (HW.out _ hS0).mono ?_
 rintro e w2 ⟨v, rfl, ho, hf, k2⟩
 have HO := Hid.mk_ ho
 have HF : Hid (∀ g, v.ownBlock = some g → w.heap.size ≤ g) := fun g hg => by have := hf g hg; have := hS0.size; omega
 have HK := Hid.mk_ (hS0.trans k2)
 obtain ⟨va, vc, ev⟩ := ho.isSlice
 subst ev
 generalize (Dp.vals X).length = N at *
 clear ho hf
 refine hK _ _ ⟨fun h => absurd h (Nat.lt_irrefl _), ?_⟩
 clear hK K
 refine Dp.wpAnyL_rest (by kernel_rfl) ?_
 refine' Dp.wpAny_pure 9 rfl (by kernel_rfl) (fun _ _ _ h => h) (.inl ⟨by rfl, ?hpc9⟩) ?pestc9
 case hpc9 => intro wx; go_simp; try with_reducible rfl
 simp only [Act.put, Dp.tks]
 refine' Dp.wpAny_pure 10 rfl (by kernel_rfl) (fun _ _ _ h => h) (.inl ⟨by rfl, ?hpc10⟩) ?pestc10
 case hpc10 => intro wx; go_simp; try with_reducible rfl
 simp only [Act.put, Dp.tks]
 refine Dp.wpAny_tail 11 rfl (by kernel_rfl) ?_
 simp only [List.drop_succ_cons, List.drop_zero]
 go_wp2
 go_ret2
 exact ⟨_, rfl, HO.out, HF.out, HK.out⟩
namespace Dp
theorem run_toStr {w : World} {v : Value} {l : List UInt8} (h : Bytes w v l) : (convert 47 9 v).run Tryz.prog w = .ok (.string (str l)) w := by
 obtain ⟨b, o, ad, cap, rfl, hl, hne, hc⟩ := h
 cases ad with
 | none =>
  have : l = [] := by
   by_cases e : l = []
   ·exact e
   ·exact absurd (hne e) (by simp)
  subst this
  exact run_convert_bytes_nil w 47 5 Tryz.underlying47 Tryz.underlying5 _ cap 9 Tryz.underlying9
 | some a =>
  refine run_convert_bytes_back (P := Tryz.prog) w 47 9 5 a cap l Tryz.underlying47 Tryz.underlying5 Tryz.underlying9 (fun j hj => ?_)
  have e : a = ⟨b, o, none⟩ := Option.some.inj (hne (by intro e; rw [e] at hj; simp at hj))
  rw [e]
  have : (⟨b, o, none⟩ : Addr).add j = ⟨b, o + j, none⟩ := by unfold Addr.add; split <;> simp_all
  rw [this]
  exact hc j hj
end Dp
namespace Dp
end Dp
end Go.Proofs.YtdipojfngdceoaaGreatDoor
