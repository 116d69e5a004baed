/- Steps on the way: ProgCalls, ProgDo, ProgWitness. -/
import Derived.Test.YtdipojfngdceoabGreatDoorPack17
import Derived.Test.YtdipojfngdceoabGreatDoorPack33
import Derived.Test.YtdipojfngdceoabGreatDoorPack75
import Derived.Test.YtdipojfngdceoabGreatDoorPack76
import Derived.Test.YtdipojfngdceoabGreatDoorPack78
import Derived.Test.YtdipojfngdceoabGreatDoorPack79
/- The program's machine: its calls. -/
namespace Go.Proofs.YtdipojfngdceoabGreatDoor
open Go.RowKit

namespace Dp
theorem own_bytes {w : World} {e : TypeId} {v : Value} {l : List UInt8} (h : Own w e v (vals l)) : Bytes w v l := by
  rcases h with ⟨rfl, h2⟩ | ⟨g, tail, rfl, h2, h3⟩
  · have : l = [] := by cases l with
      | nil => rfl
      | cons a b => simp [vals] at h2
    subst this
    exact ⟨0, 0, none, 0, rfl, by simp [maxLen], fun e => absurd rfl e, fun j hj => absurd hj (by simp)⟩
  · refine ⟨g, 0, some ⟨g, 0, none⟩, _, by rw [vals_length], by rw [vals_length] at h3; omega, fun _ => rfl, fun j hj => ?_⟩
    rw [h2.cell, List.getElem?_append_left (by rw [vals_length]; omega)]
    simp [vals, hj]
end Dp

set_option maxRecDepth 100000 in
set_option maxHeartbeats 1000000 in
theorem progSStamp (s : Dp.Cs) (root : Int) (w : World) (hs : s.Ok) (hr : 0 ≤ root ∧ root < 65536) :
    Calls Tryz.prog 40 #[.agg (Dp.stateCells s).toArray, .int .i64 root] w fun e w' => e = .returned (.int .i64 (Dp.stamp s root)) ∧ Dp.Keeps (fun _ => False) w w' := by
  have HL : Hid ((Dp.stateCells s).length = 12) := Dp.stateCells_length s hs.len
  go_enter Tryz.func40, Tryz.ntmps40
  go_wp2_with (refine Dp.wpList_box_row rfl 79 _ rfl (Dp.stateCells s) rfl ?_)
  intro w1 x1 z1 k1
  have HX := Hid.mk_ (Dp.row_nil x1)
  go_wp2_with (refine Dp.wpList_load_in rfl 79 _ rfl w.heap.size 0 rfl 79 [] _ [] HX.out rfl _ Tryz.underlying79 rfl (by rw [sizePState, HL.out]) ?_)
  intro _
  clear HX x1 z1
  go_wp2_with fail
  refine (progLabel s root _ hs hr).mono ?_
  rintro e w2 ⟨⟨v, rfl, ov, fv⟩, k2⟩
  have HB := Hid.mk_ (Dp.own_bytes ov)
  obtain ⟨ad, cap, ev⟩ := ov.isSlice
  rw [ev] at HB ⊢
  clear ev ov fv
  rw [Dp.vals_length] at HB ⊢
  have HB2 := Hid.mk_ (Dp.parts_one (e := 35) (HB.out.still ((Dp.Keeps.refl _ _).alloc (.cells #[.slice ad (Dp.label s root).length cap] 35))))
  go_wp2_with fail
  refine (digSum _ [Dp.label s root] _ HB2.out).mono ?_
  rintro e w3 ⟨rfl, rfl⟩
  go_wp2
  go_ret
  exact ⟨Dp.ret_int rfl, (k1.trans k2).alloc _⟩

set_option maxRecDepth 100000 in
set_option maxHeartbeats 1000000 in
theorem progMStamp (w : World) (b : Nat) (G : Nat → Prop) (vs : Value) (m : Dp.Mach) (h : Dp.ProgM w b G vs m) :
    Calls Tryz.prog 22 #[.pointer (some ⟨b, 0, none⟩)] w fun e w' => e = .returned (.int .i64 (Dp.stamp m.s (Dp.root m.cells))) ∧ Dp.Keeps (fun _ => False) w w' := by
  have H := Hid.mk_ h
  have hrow := h.row
  have hlen := h.ok.s.len
  clear h
  obtain ⟨⟨pc, st, co, ov, regs⟩, cells, srcs⟩ := m
  obtain ⟨r0, r1, r2, r3, r4, r5, r6, r7, rfl⟩ := Dp.list8 hlen
  have q0 : ∀ wx, Dp.Keeps (fun _ => False) w wx → wx.cell? ⟨b, 0, none⟩ = some (.int .u32 pc) := fun wx kx => by rw [(hrow.keep kx (fun e => e)).cell]; rfl
  have q1 : ∀ wx, Dp.Keeps (fun _ => False) w wx → wx.cell? ⟨b, 1, none⟩ = some (.int .u32 st) := fun wx kx => by rw [(hrow.keep kx (fun e => e)).cell]; rfl
  have q2 : ∀ wx, Dp.Keeps (fun _ => False) w wx → wx.cell? ⟨b, 2, none⟩ = some (.int .u32 co) := fun wx kx => by rw [(hrow.keep kx (fun e => e)).cell]; rfl
  have q3 : ∀ wx, Dp.Keeps (fun _ => False) w wx → wx.cell? ⟨b, 3, none⟩ = some (.bool ov) := fun wx kx => by rw [(hrow.keep kx (fun e => e)).cell]; rfl
  have q4 : ∀ wx, Dp.Keeps (fun _ => False) w wx → wx.cell? ⟨b, 4, none⟩ = some (.int .u32 r0) := fun wx kx => by rw [(hrow.keep kx (fun e => e)).cell]; rfl
  have q5 : ∀ wx, Dp.Keeps (fun _ => False) w wx → wx.cell? ⟨b, 5, none⟩ = some (.int .u32 r1) := fun wx kx => by rw [(hrow.keep kx (fun e => e)).cell]; rfl
  have q6 : ∀ wx, Dp.Keeps (fun _ => False) w wx → wx.cell? ⟨b, 6, none⟩ = some (.int .u32 r2) := fun wx kx => by rw [(hrow.keep kx (fun e => e)).cell]; rfl
  have q7 : ∀ wx, Dp.Keeps (fun _ => False) w wx → wx.cell? ⟨b, 7, none⟩ = some (.int .u32 r3) := fun wx kx => by rw [(hrow.keep kx (fun e => e)).cell]; rfl
  have q8 : ∀ wx, Dp.Keeps (fun _ => False) w wx → wx.cell? ⟨b, 8, none⟩ = some (.int .u32 r4) := fun wx kx => by rw [(hrow.keep kx (fun e => e)).cell]; rfl
  have q9 : ∀ wx, Dp.Keeps (fun _ => False) w wx → wx.cell? ⟨b, 9, none⟩ = some (.int .u32 r5) := fun wx kx => by rw [(hrow.keep kx (fun e => e)).cell]; rfl
  have q10 : ∀ wx, Dp.Keeps (fun _ => False) w wx → wx.cell? ⟨b, 10, none⟩ = some (.int .u32 r6) := fun wx kx => by rw [(hrow.keep kx (fun e => e)).cell]; rfl
  have q11 : ∀ wx, Dp.Keeps (fun _ => False) w wx → wx.cell? ⟨b, 11, none⟩ = some (.int .u32 r7) := fun wx kx => by rw [(hrow.keep kx (fun e => e)).cell]; rfl
  have hS0 : Dp.Keeps (fun _ => False) w w.drew := (Dp.Keeps.refl _ _).drew
  have hb := Dp.root_bd cells
  go_enter Tryz.func22, Tryz.ntmps22
  go_wp2
  refine Dp.wp_region_L (fun wx => Dp.Keeps (fun _ => False) w wx) 8 mixedP ?_
  refine' Dp.wpAnyL_take 0 rfl (by kernel_rfl) (fun _ _ _ h => h) (by rfl) ?hy0 hS0 ?rest0
  case hy0 => intro wx hSx; go_simp; try with_reducible rfl
  simp only [Act.put, List.getElem_toArray, List.getElem_cons_zero, List.setIfInBounds_toArray, List.set_cons_zero, List.set_cons_succ]
  refine' Dp.wpAnyL_take 1 rfl (by kernel_rfl) (fun _ _ _ h => h) (by rfl) ?hy1 hS0 ?rest1
  case hy1 => intro wx hSx; go_simp; try with_reducible rfl
  simp only [Act.put, List.getElem_toArray, List.getElem_cons_zero, List.getElem_cons_succ, List.setIfInBounds_toArray, List.set_cons_zero, List.set_cons_succ]
  refine' Dp.wpAnyL_take 2 rfl (by kernel_rfl) (fun _ _ _ h => h) (by rfl) ?hy2 hS0 ?rest2
  case hy2 => intro wx hSx; go_simp; try with_reducible rfl
  simp only [Act.put, List.getElem_toArray, List.getElem_cons_zero, List.getElem_cons_succ, List.setIfInBounds_toArray, List.set_cons_zero, List.set_cons_succ]
  refine' Dp.wpAnyL_take 3 rfl (by kernel_rfl) (fun _ _ _ h => h) (by rfl) ?hy3 hS0 ?rest3
  case hy3 => intro wx hSx; go_simp; try with_reducible rfl
  simp only [Act.put, List.getElem_toArray, List.getElem_cons_zero, List.getElem_cons_succ, List.setIfInBounds_toArray, List.set_cons_zero, List.set_cons_succ]
  refine' Dp.wpAnyL_take 4 rfl (by kernel_rfl) (fun _ _ _ h => h) (by rfl) ?hy4 hS0 ?rest4
  case hy4 => intro wx hSx; go_simp; try with_reducible rfl
  simp only [Act.put, List.getElem_toArray, List.getElem_cons_zero, List.getElem_cons_succ, List.setIfInBounds_toArray, List.set_cons_zero, List.set_cons_succ]
  refine' Dp.wpAnyL_take 5 rfl (by kernel_rfl) (fun _ _ _ h => h) (by rfl) ?hy5 hS0 ?rest5
  case hy5 => intro wx hSx; go_simp; try with_reducible rfl
  simp only [Act.put, List.getElem_toArray, List.getElem_cons_zero, List.getElem_cons_succ, List.setIfInBounds_toArray, List.set_cons_zero, List.set_cons_succ]
  refine' Dp.wpAnyL_take 6 rfl (by kernel_rfl) (fun _ _ _ h => h) (by rfl) ?hy6 hS0 ?rest6
  case hy6 => intro wx hSx; go_simp; try with_reducible rfl
  simp only [Act.put, List.getElem_toArray, List.getElem_cons_zero, List.getElem_cons_succ, List.setIfInBounds_toArray, List.set_cons_zero, List.set_cons_succ]
  refine Dp.wpAnyL_one 7 rfl (by kernel_rfl) (by rfl) (fun K hK => ?_)
  go_simp
  have HR2 : Hid (Dp.Row w.drew b 86 (Dp.stateCells ⟨pc, st, co, ov, [r0, r1, r2, r3, r4, r5, r6, r7]⟩ ++ Dp.memCells vs cells ++ [])) := by unfold Hid; rw [List.append_nil]; exact hrow
  refine (progRoot w.drew b 12 _ _ _ vs cells H.out.ok.len HR2.out rfl H.out.ok.cells).mono ?_
  rintro e w2 ⟨rfl, k2⟩
  have hS1 := hS0.trans k2
  refine hK _ _ ⟨fun _ => hS1, ?_⟩
  clear hK K
  refine Dp.wpAnyL_rest (by kernel_rfl) ?_
  refine Dp.wpAny_tail 8 rfl (by kernel_rfl) ?_
  simp only [List.drop_succ_cons, List.drop_zero]
  clear q0 q1 q2 q3 q4 q5 q6 q7 q8 q9 q10 q11
  go_wp2_with fail
  refine (progSStamp ⟨pc, st, co, ov, [r0, r1, r2, r3, r4, r5, r6, r7]⟩ (Dp.root cells) _ H.out.ok.s (by omega)).mono ?_
  rintro e w3 ⟨rfl, k3⟩
  go_wp2
  go_ret
  exact ⟨rfl, hS1.trans k3⟩

namespace Dp
theorem run_one (m : Mach) : (Mach.run 1 m).1 = m.step.1 ∧ (Mach.run 1 m).2.2 = m.step.2 := by
  unfold Mach.run
  by_cases hov : m.s.over = true
  · rw [if_pos hov]
    unfold Mach.step; rw [if_pos hov]; exact ⟨rfl, rfl⟩
  · rw [if_neg hov]
    by_cases hz : m.step.2 = 0
    · rw [if_neg (by simpa using hz)]; exact ⟨rfl, hz.symm⟩
    · rw [if_pos hz]; exact ⟨(step_same m hz).symm, rfl⟩
end Dp

set_option maxRecDepth 100000 in
set_option maxHeartbeats 1000000 in
theorem progMStep (w : World) (b : Nat) (G : Nat → Prop) (vs : Value) (m : Dp.Mach) (h : Dp.ProgM w b G vs m) :
    Calls Tryz.prog 9 #[.pointer (some ⟨b, 0, none⟩)] w fun e w' => e = .returned (.int .i64 m.step.2) ∧ Dp.Keeps (fun k => k = b) w w' ∧ Dp.ProgM w' b G vs m.step.1 := by
  have HR := Hid.mk_ (Dp.run_one m)
  go_enter Tryz.func9, Tryz.ntmps9
  go_wp2_with fail
  refine (progRunM w b G vs m h 1 (by omega)).mono ?_
  rintro e w1 ⟨rfl, k1, h1⟩
  rw [HR.out.1] at h1
  rw [HR.out.2]
  generalize (Dp.Mach.run 1 m).2.1 = dn at *
  go_wp2
  go_ret
  exact ⟨rfl, k1, h1⟩

set_option maxRecDepth 100000 in
set_option maxHeartbeats 1000000 in
theorem progMRun (w : World) (b : Nat) (G : Nat → Prop) (vs : Value) (m : Dp.Mach) (h : Dp.ProgM w b G vs m) (n : Nat) (hn : n ≤ 100000) :
    Calls Tryz.prog 27 #[.pointer (some ⟨b, 0, none⟩), .int .i64 n] w fun e w' => e = .returned (.tuple #[.int .i64 ((Dp.Mach.run n m).2.1 : Int), .int .i64 (Dp.Mach.run n m).2.2]) ∧ Dp.Keeps (fun k => k = b) w w' ∧ Dp.ProgM w' b G vs (Dp.Mach.run n m).1 := by
  have hn0 : ¬ (n : Int) < 0 := by omega
  have hn1 : ¬ (100000 : Int) < (n : Int) := by omega
  go_enter Tryz.func27, Tryz.ntmps27
  go_wp2_with fail
  refine (progRunM w b G vs m h n hn).mono ?_
  rintro e w1 ⟨rfl, k1, h1⟩
  go_wp2
  go_ret2
  exact ⟨rfl, k1, h1⟩

set_option maxRecDepth 100000 in
set_option maxHeartbeats 1000000 in
theorem progMRunErr (w : World) (b : Nat) (n : Int) (hn : n < 0 ∨ 100000 < n) :
    Calls Tryz.prog 27 #[.pointer (some ⟨b, 0, none⟩), .int .i64 n] w fun e w' => e = .returned (.tuple #[.int .i64 0, .int .i64 1]) ∧ w' = w := by
  rcases hn with hn | hn
  · go_enter Tryz.func27, Tryz.ntmps27
    go_wp2
    go_ret2
    exact ⟨rfl, rfl⟩
  · have hn' : ¬ n < 0 := by omega
    go_enter Tryz.func27, Tryz.ntmps27
    go_wp2
    go_ret2
    exact ⟨rfl, rfl⟩

set_option maxRecDepth 100000 in
set_option maxHeartbeats 1000000 in
theorem progMCell (w : World) (b : Nat) (G : Nat → Prop) (vs : Value) (m : Dp.Mach) (h : Dp.ProgM w b G vs m) (n : Int) (hn : 0 ≤ n ∧ n < 256) :
    Calls Tryz.prog 53 #[.pointer (some ⟨b, 0, none⟩), .int .i64 n] w fun e w' => e = .returned (.tuple #[.int .i64 (m.cell n), .int .i64 0]) ∧ w' = w := by
  have hn0 : ¬ n < 0 := by omega
  have hn1 : ¬ n ≥ 256 := by omega
  have HR2 : Hid (Dp.Row w b 86 (Dp.stateCells m.s ++ Dp.memCells vs m.cells ++ [])) := by unfold Hid; rw [List.append_nil]; exact h.row
  have hc := h.ok.cell n
  unfold Dp.isWord at hc
  have HC := Hid.mk_ (progCellsLoad w b 12 _ _ _ vs m.cells n h.ok.len HR2.out (Dp.stateCells_length _ h.ok.s.len) (by unfold Dp.isWord; omega) h.ok.cells)
  rw [if_neg hn1, if_neg hn1] at HC
  have e1 : m.cells.getD n.toNat 0 = m.cell n := rfl
  rw [e1] at HC
  clear e1
  generalize m.cell n = cx at *
  go_enter Tryz.func53, Tryz.ntmps53
  go_wp2_with (refine HC.out.mono ?_; rintro e w' ⟨rfl, rfl⟩)
  go_ret2
  exact ⟨rfl, rfl⟩

set_option maxRecDepth 100000 in
set_option maxHeartbeats 1000000 in
theorem progMCellErr (w : World) (b : Nat) (n : Int) (hn : n < 0 ∨ 256 ≤ n) :
    Calls Tryz.prog 53 #[.pointer (some ⟨b, 0, none⟩), .int .i64 n] w fun e w' => e = .returned (.tuple #[.int .i64 0, .int .i64 1]) ∧ w' = w := by
  rcases hn with hn | hn
  · go_enter Tryz.func53, Tryz.ntmps53
    go_wp2
    go_ret2
    exact ⟨rfl, rfl⟩
  · have hn' : ¬ n < 0 := by omega
    go_enter Tryz.func53, Tryz.ntmps53
    go_wp2
    go_ret2
    exact ⟨rfl, rfl⟩

end Go.Proofs.YtdipojfngdceoabGreatDoor

/- The program does a machine's next step on copies, and writes down what proves it. -/
namespace Go.Proofs.YtdipojfngdceoabGreatDoor
open Go.RowKit

namespace Dp
def deedCells (v : Value) (after e : Int) : List Value := [v, .int .i64 after, .int .i64 e]
theorem coreCells_ones (s : Cs) (mem : Value) (h : mem.oneCell' = true) : ∀ v ∈ coreCells s mem, v.oneCell' = true := by
  intro v hv
  rw [coreCells_state] at hv
  rcases List.mem_append.1 hv with hv | hv
  · exact stateCells_one s v hv
  · obtain rfl : v = mem := by simpa using hv
    exact h
theorem wp_append_Both {P : Program} {w : World} {o : Oper} {a : Act} {K : Act → World → Prop} {Q : Exit → Act → World → Prop} (s x : Operand) (t : TypeId)
    (ho : o.op = .call { callee := .builtin .append, args := #[s, x], argTypes := #[t, t] }) (e : TypeId) (z : Value) (bytes : Nat) (ht : P.underlying t = some (.slice e)) (hinfo : (P.info? e).map (fun i => (i.zero, i.size, i.bytes)) = some (some z, 1, bytes)) (hz1 : z.cells.size = 1)
    (v : Value) (xs : List Value) (hs : a.eval s = v) (hown : Own w e v xs) (vx : Value) (news : List Value) (hxv : a.eval x = vx) (hx : Own w e vx news) (h1 : ∀ u ∈ news, u.oneCell' = true) (h63 : xs.length + news.length ≤ maxLen) (hbytes : (xs.length + news.length) * bytes ≤ 140737488355328)
    (h : ∀ v' w', Own w' e v' (xs ++ news) → Keeps (fun k => v.ownBlock = some k) w w' → Hid (v'.ownBlock = v.ownBlock ∧ w'.heap.size = w.heap.size ∨ v'.ownBlock = some w.heap.size ∧ w'.heap.size = w.heap.size + 1) → K (a.put o.dst v') w') :
    o.wp P a w K Q := by
  obtain ⟨v', w', hr, h2, h3, h4⟩ := run_append_Both (P := P) w t o.type e z bytes ht hinfo hz1 v xs hown vx news hx h1 h63 hbytes
  unfold Oper.wp execOp
  simp only [ho, resolve, invoke, builtin, Sem.run_bind, Sem.run_pure, Result.andThen_ok, List.map_toArray, List.map_cons, List.map_nil, hs, hxv, hr]
  exact h v' w' h2 h3 h4
theorem recCells_one {vs : Value} {cells : List Int} (h : vs.oneCell' = true) : ∀ v ∈ memCells vs cells ++ ([.slice none 0 0] : List Value), v.oneCell' = true := by
  intro v hv
  simp only [memCells, wordCells, List.cons_append, List.mem_cons, List.mem_append, List.mem_map, List.not_mem_nil, or_false] at hv
  rcases hv with rfl | ⟨x, _, rfl⟩ | rfl
  · exact h
  · rfl
  · rfl
end Dp
theorem zeroDeed : (Tryz.prog.info? 111).map (fun i => i.zero) = some (some (.agg (Dp.deedCells (.slice none 0 0) 0 0).toArray)) := by kernel_rfl
theorem sizeDeed : (Tryz.prog.info? 111).map (·.size) = some 3 := by kernel_rfl
theorem sizeRecord : (Tryz.prog.info? 136).map (·.size) = some 258 := by kernel_rfl
theorem zeroRecord : (Tryz.prog.info? 136).map (fun i => i.zero) = some (some (.agg (Dp.memCells (.slice none 0 0) (List.replicate 256 0) ++ ([.slice none 0 0] : List Value)).toArray)) := by kernel_rfl
theorem sizeCellsT : (Tryz.prog.info? 84).map (·.size) = some 257 := by kernel_rfl
theorem runLoadPS {w : World} {p : Nat} {e : TypeId} {s : Dp.Cs} {post : List Value} (h : Dp.Row w p e (Dp.stateCells s ++ post)) (hl : s.regs.length = 8) : (Instr.loadAt 79 (.pointer (some ⟨p, 0, none⟩))).run Tryz.prog w = .ok (.agg (Dp.stateCells s).toArray) w :=
  run_loadAt_mid w p 0 79 _ _ (Dp.Row.range (pre := []) h) Tryz.underlying79 rfl (by rw [sizePState, Dp.stateCells_length _ hl])

set_option maxRecDepth 100000 in
set_option maxHeartbeats 1000000 in
theorem progDo (G : Nat → Prop) (w : World) (s : Dp.Cs) (vs : Value) (cells : List Int) (srcs : List (List UInt8)) (hok : Dp.Mach.Ok ⟨s, cells, srcs⟩) (hs : s.Ok) (hl : cells.length = 256) (hw : ∀ x ∈ cells, Dp.isWord x) (hsl : ∀ l ∈ srcs, l.length ≤ 255) (hpi : Dp.PartsIn G w vs srcs) (hG : ∀ g, G g → g < w.heap.size) :
    Calls Tryz.prog 45 #[.agg (Dp.stateCells s).toArray, .agg (Dp.memCells vs cells).toArray] w fun e w' => ∃ v x, Dp.coreStep Dp.recordMemo s (cells, srcs, []) = some x ∧ e = .returned (.agg (Dp.deedCells v (Dp.stamp x.1 (Dp.root x.2.1.1)) x.2.2).toArray) ∧ Dp.Own w' 5 v (Dp.vals (Dp.label s (Dp.root cells) ++ x.2.1.2.2)) ∧ (∀ g, v.ownBlock = some g → w.heap.size ≤ g) ∧ Dp.Keeps (fun _ => False) w w' := by
  have HMS : Hid ((Dp.stateCells s).length = 12) := Dp.stateCells_length s hs.len
  have HMM : Hid ((Dp.memCells vs cells).length = 257) := by unfold Hid; simp [Dp.memCells, Dp.wordCells, hl]
  have HOKX : Hid (∀ x, Dp.coreStep Dp.recordMemo s (cells, srcs, []) = some x → x.1.Ok) := by
    intro x hx
    obtain ⟨y, h1, _⟩ := Dp.coreStep_record ⟨s, cells, srcs⟩ []
    have h2 : Dp.coreStep Dp.recordMemo s (cells, srcs, []) = _ := h1
    rw [hx] at h2
    have h3 := Option.some.inj h2
    rw [h3]
    exact hok.step.s
  go_enter Tryz.func45, Tryz.ntmps45
  go_wp2_with (refine Dp.wpList_box_row rfl 79 _ rfl (Dp.stateCells s) rfl ?_)
  intro w1 r1 z1 k1
  go_wp2_with (refine Dp.wpList_box_row rfl 84 _ rfl (Dp.memCells vs cells) rfl ?_)
  intro w2 r2 z2 k2
  go_wp2_with (refine Dp.wpList_alloc_row rfl 111 rfl _ zeroDeed ?_)
  intro w3 r3 z3 k3
  have hrs := (r1.keep k2 (fun e => e)).keep k3 (fun e => e)
  have hrc := r2.keep k3 (fun e => e)
  have HRS := Hid.mk_ hrs
  have HRC : Hid (Dp.Row w3 (w.heap.size + 1) 84 ([] ++ Dp.memCells vs cells ++ [])) := Dp.row_nil hrc
  have HRD : Hid (Dp.Row w3 (w.heap.size + 1 + 1) 111 (Dp.deedCells (.slice none 0 0) 0 0)) := by unfold Hid; exact r3
  have HK3 := Hid.mk_ ((k1.trans k2).trans k3)
  have HZ3 : Hid (w3.heap.size = w.heap.size + 1 + 1 + 1) := by unfold Hid; omega
  clear hrs hrc r1 r2 r3 k1 k2 k3 z1 z2 z3
  have HLD : Hid (∀ wx, Dp.Keeps (fun _ => False) w3 wx → (Instr.loadAt 79 (.pointer (some ⟨w.heap.size, 0, none⟩))).run Tryz.prog wx = .ok (.agg (Dp.stateCells s).toArray) wx) := fun wx kx => runLoadPS (post := []) (by rw [List.append_nil]; exact HRS.out.keep kx (fun e => e)) hs.len
  have hS0 : Dp.Keeps (fun _ => False) w3 w3.drew := (Dp.Keeps.refl _ _).drew
  have HRB := Hid.mk_ (Dp.root_bd cells)
  go_wp2
  refine Dp.wp_region_L (fun wx => Dp.Keeps (fun _ => False) w3 wx) 3 mixedP ?_
  refine' Dp.wpAnyL_take (v := .agg (Dp.stateCells s).toArray) 0 rfl (by kernel_rfl) (fun _ _ _ h => h) (by rfl) ?hyp0 hS0 ?restp0
  case hyp0 => intro wx hSx; exact Dp.run_load_op rfl rfl (HLD.out wx hSx)
  simp only [Act.put, List.getElem_toArray, List.getElem_cons_zero, List.setIfInBounds_toArray, List.set_cons_zero, List.set_cons_succ]
  refine Dp.wpAnyL_one 1 rfl (by kernel_rfl) (by rfl) (fun K hK => ?_)
  go_simp
  refine (progRoot _ (w.heap.size + 1) 0 84 [] [] vs cells hl (HRC.out.keep hS0 (fun e => e)) rfl hw).mono ?_
  rintro e w4 ⟨rfl, k4⟩
  have hS4 := hS0.trans k4
  refine hK _ _ ⟨fun _ => hS4, ?_⟩
  clear hK K
  refine Dp.wpAnyL_one 2 rfl (by kernel_rfl) (by rfl) (fun K hK => ?_)
  go_simp
  refine (progLabel s (Dp.root cells) _ hs (by have := HRB.out; omega)).mono ?_
  rintro e w5 ⟨⟨vl, rfl, ol, fl⟩, k5⟩
  have hS5 := hS4.trans k5
  refine hK _ _ ⟨fun _ => hS5, ?_⟩
  clear hK K
  refine Dp.wpAnyL_rest (by kernel_rfl) ?_
  refine Dp.wpAny_tail 3 rfl (by kernel_rfl) ?_
  simp only [List.drop_succ_cons, List.drop_zero]
  obtain ⟨la, lc, el⟩ := ol.isSlice
  subst el
  have HLL : Hid ((Dp.vals (Dp.label s (Dp.root cells))).length = 47) := by unfold Hid; rw [Dp.vals_length]; exact Dp.label_length _ _ hs.len
  rw [HLL.out] at ol fl ⊢
  have HOL := Hid.mk_ ol
  have HFL : Hid (∀ g, (Value.slice la 47 lc).ownBlock = some g → w3.heap.size ≤ g) := fun g hg => by have := fl g hg; have := hS4.size; omega
  have HRS5 := Hid.mk_ (HRS.out.keep hS5 (fun e => e))
  have HRC5 := Hid.mk_ (HRC.out.keep hS5 (fun e => e))
  have HRD5 := Hid.mk_ (HRD.out.keep hS5 (fun e => e))
  have HK5 := Hid.mk_ (HK3.out.trans hS5)
  have HZ5 : Hid (w.heap.size + 1 + 1 + 1 ≤ w5.heap.size) := by have := hS5.size; have := HZ3.out; unfold Hid; omega
  clear ol fl hS5 hS4 hS0 k4 k5 HLD HRS HRC HRD HK3
  generalize hLB : Dp.label s (Dp.root cells) = LB at *
  have HLB := Hid.mk_ hLB
  clear hLB
  have HBR : Hid (∀ wx, (Instr.build 136 #[(0, .agg (Dp.memCells vs cells).toArray)]).run Tryz.prog wx = .ok (.agg (Dp.memCells vs cells ++ ([.slice none 0 0] : List Value)).toArray) wx) := by
    intro wx
    have hfill : Instr.fill ((#[(0, 257), (257, 1)] : Array (Nat × Nat))[·]?) (Dp.memCells (.slice none 0 0) (List.replicate 256 0) ++ ([.slice none 0 0] : List Value)).toArray [(0, .agg (Dp.memCells vs cells).toArray)] = some (Dp.memCells vs cells ++ ([.slice none 0 0] : List Value)).toArray := by
      have h := Dp.fill_part ((#[(0, 257), (257, 1)] : Array (Nat × Nat))[·]?) 0 0 [] (Dp.memCells (.slice none 0 0) (List.replicate 256 0)) [.slice none 0 0] (Dp.memCells vs cells) (by rw [HMM.out]; rfl) (by rw [HMM.out]; rfl) rfl
      simpa using h
    have e : (Instr.build 136 #[(0, .agg (Dp.memCells vs cells).toArray)]).run Tryz.prog wx = (match Instr.fill ((#[(0, 257), (257, 1)] : Array (Nat × Nat))[·]?) (Dp.memCells (.slice none 0 0) (List.replicate 256 0) ++ ([.slice none 0 0] : List Value)).toArray [(0, .agg (Dp.memCells vs cells).toArray)] with
      | some cells => (pure (.agg cells) : Sem Value)
      | _ => stuck "build: no such field, or a part of the wrong size").run Tryz.prog wx := by kernel_rfl
    rw [e, hfill]
    rfl
  go_wp2_with (first | (refine Dp.wpList_load_in rfl 84 _ rfl (w.heap.size + 1) 0 rfl 84 [] _ [] HRC5.out rfl _ Tryz.underlying84 rfl (by rw [sizeCellsT, HMM.out]) ?_; intro _) | (refine Dp.wpList_build_one rfl 136 0 _ rfl (.agg (Dp.memCells vs cells).toArray) (.agg (Dp.memCells vs cells ++ ([.slice none 0 0] : List Value)).toArray) rfl (HBR.out _) ?_; intro _) | (refine Dp.wpList_alloc_row rfl 136 rfl _ zeroRecord ?_))
  intro w6 r6 z6 k6
  generalize hq : w5.heap.size = q at *
  have HOQ : Hid (∀ g, (Value.slice la 47 lc).ownBlock = some g → g < q) := fun g hg => by have := HOL.out.lt g hg; omega
  have HR6 : Hid (Dp.Row w6 q 136 ([] ++ (Dp.memCells (.slice none 0 0) (List.replicate 256 0) ++ ([.slice none 0 0] : List Value)) ++ [])) := Dp.row_nil r6
  have HML : Hid ((Dp.memCells vs cells ++ ([.slice none 0 0] : List Value)).length = 258) := by unfold Hid; rw [List.length_append, HMM.out]; rfl
  have HM1 : Hid (vs.oneCell' = true) := by obtain ⟨_, _, _, _, e, _⟩ := hpi; rw [e]; rfl
  clear r6
  go_wp2_with (refine Dp.wpList_store_in rfl 136 _ _ rfl q 0 rfl (Dp.memCells vs cells ++ ([.slice none 0 0] : List Value)) rfl 136 [] (Dp.memCells (.slice none 0 0) (List.replicate 256 0) ++ ([.slice none 0 0] : List Value)) [] HR6.out rfl (HML.out.trans rfl) (by rw [sizeRecord, HML.out]) (Dp.recCells_one HM1.out) ?_)
  intro w7 r7 z7 k7
  have HQ : Hid (w.heap.size + 1 + 1 + 1 ≤ q) := HZ5.out
  have hqq := HQ.out
  have k67 : Dp.Keeps (fun _ => False) w5 w7 := k6.next k7 (fun i hi e => by omega)
  have HR7 : Hid (Dp.Row w7 q 136 (Dp.memCells vs cells ++ ([.slice none 0 0] : List Value))) := by unfold Hid; simpa using r7
  have HRS7 : Hid (Dp.Row w7 w.heap.size 79 ([] ++ Dp.stateCells s ++ [])) := Dp.row_nil (HRS5.out.keep k67 (fun e => e))
  have HRD7 := Hid.mk_ (HRD5.out.keep k67 (fun e => e))
  have HOL7 := Hid.mk_ (HOL.out.keep k67 (fun _ _ e => e))
  have HK7 := Hid.mk_ (HK5.out.trans k67)
  have z7' : w7.heap.size = q + 1 := by omega
  clear r7 z7 k7 k6 z6 k67 HR6 HRS5 HRC5 HRD5 HOL HK5 HBR
  have HBD : Hid (∀ wx, (Instr.build 109 #[(0, .agg (Dp.stateCells s).toArray), (1, .iface 137 (.pointer (some ⟨q, 0, none⟩)))]).run Tryz.prog wx = .ok (.agg (Dp.coreCells s (.iface 137 (.pointer (some ⟨q, 0, none⟩)))).toArray) wx) := by
    intro wx
    obtain ⟨a, b, c, d, rg⟩ := s
    obtain ⟨x0, x1, x2, x3, x4, x5, x6, x7, hx⟩ := Dp.list8 hs.len
    simp only at hx
    subst hx
    kernel_rfl
  have HMC : Hid ((Dp.coreCells s (.iface 137 (.pointer (some ⟨q, 0, none⟩)))).length = 13) := by unfold Hid; rw [Dp.coreCells_state, List.length_append, HMS.out]; rfl
  go_wp2_with (first | (refine Dp.wpList_load_in rfl 79 _ rfl w.heap.size 0 rfl 79 [] _ [] HRS7.out rfl _ Tryz.underlying79 rfl (by rw [sizePState, HMS.out]) ?_; intro _) | (refine Dp.wpList_build_two rfl 109 0 1 _ _ rfl (.agg (Dp.stateCells s).toArray) (.iface 137 (.pointer (some ⟨q, 0, none⟩))) (.agg (Dp.coreCells s (.iface 137 (.pointer (some ⟨q, 0, none⟩)))).toArray) rfl rfl (HBD.out _) ?_; intro _) | (refine Dp.wpList_alloc_row rfl 109 rfl _ zeroCore ?_))
  intro w8 r8 z8 k8
  have HR8 : Hid (Dp.Row w8 (q + 1) 109 ([] ++ Dp.coreCells ⟨0, 0, 0, false, [0, 0, 0, 0, 0, 0, 0, 0]⟩ .nilIface ++ [])) := by unfold Hid; rw [List.append_nil, List.nil_append]; first | exact r8 | (rw [← z7']; exact r8)
  go_wp2_with (refine Dp.wpList_store_in rfl 109 _ _ rfl (q + 1) 0 rfl (Dp.coreCells s (.iface 137 (.pointer (some ⟨q, 0, none⟩)))) rfl 109 [] (Dp.coreCells ⟨0, 0, 0, false, [0, 0, 0, 0, 0, 0, 0, 0]⟩ .nilIface) [] HR8.out rfl (HMC.out.trans rfl) (by rw [sizeCore, HMC.out]) (Dp.coreCells_ones _ _ rfl) ?_)
  intro wb rb zb kb
  have k8b : Dp.Keeps (fun _ => False) w7 wb := k8.next kb (fun i hi e => by omega)
  have rcb : Dp.Row wb (q + 1) 109 (Dp.coreCells s (.iface 137 (.pointer (some ⟨q, 0, none⟩)))) := by simpa using rb
  have HRB7 := Hid.mk_ (HR7.out.keep k8b (fun e => e))
  have HRDB := Hid.mk_ (HRD7.out.keep k8b (fun e => e))
  have HOLB := Hid.mk_ (HOL7.out.keep k8b (fun _ _ e => e))
  have HKB := Hid.mk_ (HK7.out.trans k8b)
  have zzb : wb.heap.size = q + 1 + 1 := by omega
  have hI : Dp.RecInv G wb (q + 1) q 0 wb (cells, srcs, []) := by
    refine ⟨hl, hw, Nat.le_refl _, hsl, by omega, by omega, by omega, fun g hg => ?_, Dp.Keeps.refl _ _, vs, _, HRB7.out, hpi.keep HKB.out (fun g hg => ⟨hG g hg, fun e => e⟩), Dp.Own.nil _ _, fun g hg => by simp [Value.ownBlock] at hg⟩
    have := hG g hg
    exact ⟨by omega, by omega, by omega⟩
  clear r8 z8 k8 rb zb kb k8b HR8 HRS7 HRD7 HOL7 HK7 HR7 HBD
  go_wp2_with fail
  refine (progStep Dp.recordMemo (Dp.RecF q) (Dp.RecInv G wb (q + 1) q 0) (Dp.RecInv G wb (q + 1) q (0 + 300)) (Dp.RecInv G wb (q + 1) q (0 + 300 + 300)) (fun _ => False) [] 137 (.pointer (some ⟨q, 0, none⟩)) s (q + 1) wb (cells, srcs, []) hs (Dp.recordOk G wb (q + 1) q 0 (by omega)) (Dp.recordOk G wb (q + 1) q (0 + 300) (by omega)) rcb hI).mono ?_
  intro e wc hc
  clear hI rcb
  cases hcs : Dp.coreStep Dp.recordMemo s (cells, srcs, []) with
  | none =>
    rw [hcs, Dp.after_none] at hc
    exact hc.2.elim
  | some x =>
    rw [hcs, Dp.after_some] at hc
    obtain ⟨rfl, rcc, hIc⟩ := hc
    have HXO : Hid x.1.Ok := HOKX.out x hcs
    have HCS := Hid.mk_ hcs
    clear hcs
    obtain ⟨vs', vsh, hrw, hpw, how, hnw⟩ := hIc.row
    have hkc := hIc.frame
    have hfar : ∀ g, (Value.slice la 47 lc).ownBlock = some g → ¬ (g = q ∨ g = q + 1) := fun g hg e => by have := HOQ.out g hg; omega
    have HWC : Hid (w.heap.size + 1 + 1 + 1 ≤ wc.heap.size) := by have := hkc.size; have := HQ.out; unfold Hid; omega
    have HOC := Hid.mk_ (HOLB.out.keep hkc hfar)
    have HRDC := Hid.mk_ (HRDB.out.keep hkc (by omega))
    have HKC : Hid (Dp.Keeps (fun _ => False) w wc) := HKB.out.next hkc (fun i hi e => by omega)
    obtain ⟨sa, sc, esh⟩ := how.isSlice
    subst esh
    generalize hSN : (Dp.vals x.2.1.2.2).length = SN at *
    have HSN := Hid.mk_ hSN
    have HSS := Hid.mk_ hIc.short
    have HW := Hid.mk_ how
    have HNW := Hid.mk_ hnw
    have hS0 : Dp.Keeps (fun i => (Value.slice la 47 lc).ownBlock = some i) wc wc.drew := (Dp.Keeps.refl _ _).drew
    have HLE : Hid ((Dp.memCells vs' x.2.1.1).length = 257) := by unfold Hid; simp [Dp.memCells, Dp.wordCells, hIc.len]
    have HRX : Hid (∀ wx, Dp.Keeps (fun i => (Value.slice la 47 lc).ownBlock = some i) wc wx → Dp.Row wx q 136 ([] ++ Dp.memCells vs' x.2.1.1 ++ [.slice sa SN sc])) := fun wx kx => hrw.keep kx (fun e => hfar q e (.inl rfl))
    have c257 : ∀ wx, Dp.Keeps (fun i => (Value.slice la 47 lc).ownBlock = some i) wc wx → wx.cell? ⟨q, 257, none⟩ = some (.slice sa SN sc) := fun wx kx => by
      rw [(HRX.out wx kx).cell, List.nil_append, List.getElem?_append_right (by rw [HLE.out]; omega), HLE.out]; rfl
    have HLX : Hid (∀ wx, Dp.Keeps (fun i => (Value.slice la 47 lc).ownBlock = some i) wc wx → (Instr.loadAt 79 (.pointer (some ⟨q + 1, 0, none⟩))).run Tryz.prog wx = .ok (.agg (Dp.stateCells x.1).toArray) wx) := fun wx kx => runLoadPS (post := [.iface 137 (.pointer (some ⟨q, 0, none⟩))]) (by rw [← Dp.coreCells_state]; exact rcc.keep kx (fun e => hfar (q + 1) e (.inr rfl))) HXO.out.len
    have HXL : Hid (x.2.1.1.length = 256 ∧ ∀ y ∈ x.2.1.1, Dp.isWord y) := ⟨hIc.len, hIc.words⟩
    clear hIc hrw hpw how hnw rcc hkc hSN
    go_wp2
    refine Dp.wp_region_L (fun wx => Dp.Keeps (fun i => (Value.slice la 47 lc).ownBlock = some i) wc wx) 10 mixedP ?_
    refine' Dp.wpAnyL_take 0 rfl (by kernel_rfl) (fun _ _ _ h => h) (by rfl) ?hyd0 hS0 ?restd0
    case hyd0 => intro wx hSx; go_simp; try with_reducible rfl
    simp only [Act.put, List.getElem_toArray, List.getElem_cons_zero, List.setIfInBounds_toArray, List.set_cons_zero, List.set_cons_succ]
    refine' Dp.wpAnyL_take 1 rfl (by kernel_rfl) (fun _ _ _ h => h) (by rfl) ?hyd1 hS0 ?restd1
    case hyd1 => intro wx hSx; go_simp; try with_reducible rfl
    simp only [Act.put, List.getElem_toArray, List.getElem_cons_zero, List.getElem_cons_succ, List.setIfInBounds_toArray, List.set_cons_zero, List.set_cons_succ]
    refine' Dp.wpAnyL_take 2 rfl (by kernel_rfl) (fun _ _ _ h => h) (by rfl) ?hyd2 hS0 ?restd2
    case hyd2 => intro wx hSx; go_simp; try with_reducible rfl
    simp only [Act.put, List.getElem_toArray, List.getElem_cons_zero, List.getElem_cons_succ, List.setIfInBounds_toArray, List.set_cons_zero, List.set_cons_succ]
    refine' Dp.wpAnyL_take 4 rfl (by kernel_rfl) (fun _ _ _ h => h) (by rfl) ?hyd4 hS0 ?restd4
    case hyd4 => intro wx hSx; go_simp; try with_reducible rfl
    simp only [Act.put, List.getElem_toArray, List.getElem_cons_zero, List.getElem_cons_succ, List.setIfInBounds_toArray, List.set_cons_zero, List.set_cons_succ]
    refine' Dp.wpAnyL_take (v := .agg (Dp.stateCells x.1).toArray) 5 rfl (by kernel_rfl) (fun _ _ _ h => h) (by rfl) ?hyp5 hS0 ?restp5
    case hyp5 => intro wx hSx; exact Dp.run_load_op rfl rfl (HLX.out wx hSx)
    simp only [Act.put, List.getElem_toArray, List.getElem_cons_zero, List.getElem_cons_succ, List.setIfInBounds_toArray, List.set_cons_zero, List.set_cons_succ]
    refine' Dp.wpAnyL_take 6 rfl (by kernel_rfl) (fun _ _ _ h => h) (by rfl) ?hye6 hS0 ?reste6
    case hye6 => intro wx hSx; go_simp; try with_reducible rfl
    simp only [Act.put, List.getElem_toArray, List.getElem_cons_zero, List.getElem_cons_succ, List.setIfInBounds_toArray, List.set_cons_zero, List.set_cons_succ]
    refine' Dp.wpAnyL_take 9 rfl (by kernel_rfl) (fun _ _ _ h => h) (by rfl) ?hye9 hS0 ?reste9
    case hye9 => intro wx hSx; go_simp; try with_reducible rfl
    simp only [Act.put, List.getElem_toArray, List.getElem_cons_zero, List.getElem_cons_succ, List.setIfInBounds_toArray, List.set_cons_zero, List.set_cons_succ]
    refine Dp.wpAnyL_one 3 rfl (by kernel_rfl) (by rfl) (fun K hK => ?_)
    have HRBX := Hid.mk_ (Dp.root_bd x.2.1.1)
    refine Dp.wp_append_Both _ _ 35 rfl 5 (.int .u8 0) 1 Tryz.underlying35 infoU8 rfl (.slice la 47 lc) (Dp.vals LB) rfl (HOC.out.keep (Dp.Keeps.refl (fun _ => False) wc).drew (fun _ _ e => e)) (.slice sa SN sc) (Dp.vals x.2.1.2.2) rfl (HW.out.keep (Dp.Keeps.refl (fun _ => False) wc).drew (fun _ _ e => e)) (Dp.vals_one _) (by have := HSS.out; rw [HLL.out, Dp.vals_length]; unfold maxLen; omega) (by have := HSS.out; rw [HLL.out, Dp.vals_length]; omega) ?_
    intro v1 wd od kd sd
    rw [Dp.vals_append] at od
    have hS1 := hS0.trans kd
    refine hK _ _ ⟨fun _ => hS1, ?_⟩
    clear hK K
    simp only [Act.put, List.getElem_toArray, List.getElem_cons_zero, List.getElem_cons_succ, List.setIfInBounds_toArray, List.set_cons_zero, List.set_cons_succ]
    have HFD : Hid (∀ g, v1.ownBlock = some g → w.heap.size + 1 + 1 + 1 ≤ g) := fun g hg => by
      rcases sd.out with hh | hh
      · have := HFL.out g (hh.1 ▸ hg); have := HZ3.out; omega
      · rw [hh.1] at hg
        have e : wc.heap.size = g := by simpa using hg
        have := HKC.out.size
        have := HWC.out
        omega
    obtain ⟨va, vc, ev⟩ := od.isSlice
    subst ev
    generalize (Dp.vals (LB ++ x.2.1.2.2)).length = VN at *
    have HOD := Hid.mk_ od
    clear od sd kd
    refine Dp.wpAnyL_one 7 rfl (by kernel_rfl) (by rfl) (fun K hK => ?_)
    go_simp
    refine (progRoot _ q 0 136 [] [.slice sa SN sc] vs' x.2.1.1 HXL.out.1 (HRX.out _ hS1) rfl HXL.out.2).mono ?_
    rintro e we ⟨rfl, ke⟩
    have hS2 := hS1.next ke (fun _ _ e => e.elim)
    refine hK _ _ ⟨fun _ => hS2, ?_⟩
    clear hK K
    refine Dp.wpAnyL_one 8 rfl (by kernel_rfl) (by rfl) (fun K hK => ?_)
    go_simp
    refine (progSStamp x.1 (Dp.root x.2.1.1) _ HXO.out (by have := HRBX.out; omega)).mono ?_
    rintro e wf ⟨rfl, kf⟩
    have hS3 := hS2.next kf (fun _ _ e => e.elim)
    refine hK _ _ ⟨fun _ => hS3, ?_⟩
    clear hK K
    refine Dp.wpAnyL_rest (by kernel_rfl) ?_
    refine Dp.wpAny_tail 10 rfl (by kernel_rfl) ?_
    simp only [List.drop_succ_cons, List.drop_zero]
    have kef := ke.trans kf
    have HOF := Hid.mk_ (HOD.out.keep kef (fun _ _ e => e))
    have HRDF : Hid (Dp.Row wf (w.heap.size + 1 + 1) 111 ([] ++ Dp.deedCells (.slice none 0 0) 0 0 ++ [])) := Dp.row_nil (HRDC.out.keep hS3 (fun e => by have := HFL.out _ e; have := HZ3.out; omega))
    have HKF : Hid (Dp.Keeps (fun _ => False) w wf) := HKC.out.next hS3 (fun i hi e => by have := HFL.out i e; have := HZ3.out; omega)
    clear hS3 hS2 hS1 hS0 ke kf kef c257 HRX HLX HOD HOC HRDC HKC HOLB HRDB HKB
    generalize hST : Dp.stamp x.1 (Dp.root x.2.1.1) = ST at *
    have HST := Hid.mk_ hST
    clear hST
    generalize hRX : Dp.root x.2.1.1 = RX at *
    have HRX2 := Hid.mk_ hRX
    clear hRX
    go_wp2_with (refine Dp.wpList_store_in rfl 111 _ _ rfl (w.heap.size + 1 + 1) 0 rfl (Dp.deedCells (.slice va VN vc) ST x.2.2) rfl 111 [] (Dp.deedCells (.slice none 0 0) 0 0) [] HRDF.out rfl rfl (by rw [sizeDeed]; rfl) (by intro v hv; simp [Dp.deedCells] at hv; rcases hv with rfl | rfl | rfl <;> rfl) ?_)
    intro wg rg zg kg
    have rg' : Dp.Row wg (w.heap.size + 1 + 1) 111 (Dp.deedCells (.slice va VN vc) ST x.2.2) := by simpa using rg
    go_wp2
    refine bodyPost_ret (v := .agg (Dp.deedCells (.slice va VN vc) ST x.2.2).toArray) (results_cell_row rfl _ _ (w.heap.size + 1 + 1) 111 _ (0, 0) _ rfl rg' Tryz.underlying111 rfl (by rw [sizeDeed]; rfl)) rfl ?_
    refine ⟨.slice va VN vc, x, HCS.out, ?_, ?_, fun g hg => by have := HFD.out g hg; omega, HKF.out.next kg (fun i hi e => by omega)⟩
    · rw [HRX2.out, HST.out]
    · rw [HLB.out]
      exact HOF.out.keep kg (fun g hg e => by have := HFD.out g hg; omega)
end Go.Proofs.YtdipojfngdceoabGreatDoor

/- The program's witness of the next step. -/
namespace Go.Proofs.YtdipojfngdceoabGreatDoor
open Go.RowKit

namespace Dp
/-- What the program shows of the next step: the label and the proofs; nothing of a step that is an error. -/
def witnessOf (m : Mach) : List UInt8 := if m.step.2 ≠ 0 then [] else label m.s (root m.cells) ++ shown m
theorem coreStep_shown (m : Mach) : coreStep recordMemo m.s (m.cells, m.srcs, []) = some (m.step.1.s, (m.step.1.cells, m.step.1.srcs, shown m), m.step.2) := by
  obtain ⟨x, h, _⟩ := coreStep_record m []
  have e : shown m = [] ++ x := by unfold shown; rw [h]
  rw [h, e]
end Dp

set_option maxRecDepth 100000 in
set_option maxHeartbeats 1000000 in
theorem progVWitness (G : Nat → Prop) (w : World) (m : Dp.Mach) (vs : Value) (hok : m.Ok) (hpi : Dp.PartsIn G w vs m.srcs) (hG : ∀ g, G g → g < w.heap.size) :
    Calls Tryz.prog 29 #[.agg (Dp.stateCells m.s).toArray, .agg (Dp.memCells vs m.cells).toArray] w fun e w' => ∃ v, e = .returned (.tuple #[v, .int .i64 m.step.2]) ∧ Dp.Own w' 5 v (Dp.vals (Dp.witnessOf m)) ∧ (∀ g, v.ownBlock = some g → w.heap.size ≤ g) ∧ Dp.Keeps (fun _ => False) w w' := by
  have HMS : Hid ((Dp.stateCells m.s).length = 12) := Dp.stateCells_length m.s hok.s.len
  have HMM : Hid ((Dp.memCells vs m.cells).length = 257) := by unfold Hid; simp [Dp.memCells, Dp.wordCells, hok.len]
  have HDO : Hid (∀ wx, Dp.Keeps (fun _ => False) w wx → Calls Tryz.prog 45 #[.agg (Dp.stateCells m.s).toArray, .agg (Dp.memCells vs m.cells).toArray] wx fun e w' => ∃ v, e = .returned (.agg (Dp.deedCells v (Dp.stamp m.step.1.s (Dp.root m.step.1.cells)) m.step.2).toArray) ∧ Dp.Own w' 5 v (Dp.vals (Dp.label m.s (Dp.root m.cells) ++ Dp.shown m)) ∧ (∀ g, v.ownBlock = some g → wx.heap.size ≤ g) ∧ Dp.Keeps (fun _ => False) wx w') := by
    intro wx kx
    refine (progDo G wx m.s vs m.cells m.srcs hok hok.s hok.len hok.cells (fun l hl => by have := hok.src l hl; omega) (hpi.keep kx (fun g hg => ⟨hG g hg, fun e => e⟩)) (fun g hg => Nat.lt_of_lt_of_le (hG g hg) kx.size)).mono ?_
    rintro e w' ⟨v, x, hx, he, ho, hf, hk⟩
    rw [Dp.coreStep_shown] at hx
    have hx' := Option.some.inj hx
    subst hx'
    exact ⟨v, he, ho, hf, hk⟩
  have HWO : Hid (Dp.witnessOf m = if m.step.2 ≠ 0 then [] else Dp.label m.s (Dp.root m.cells) ++ Dp.shown m) := rfl
  generalize Dp.label m.s (Dp.root m.cells) ++ Dp.shown m = X at *
  generalize Dp.stamp m.step.1.s (Dp.root m.step.1.cells) = ST at *
  generalize m.step.2 = E at *
  go_enter Tryz.func29, Tryz.ntmps29
  go_wp2_with (refine Dp.wpList_box_row rfl 79 _ rfl (Dp.stateCells m.s) rfl ?_)
  intro w1 r1 z1 k1
  go_wp2_with (refine Dp.wpList_box_row rfl 84 _ rfl (Dp.memCells vs m.cells) rfl ?_)
  intro w2 r2 z2 k2
  have HRS : Hid (Dp.Row w2 w.heap.size 79 ([] ++ Dp.stateCells m.s ++ [])) := Dp.row_nil (r1.keep k2 (fun e => e))
  have HRC : Hid (Dp.Row w2 (w.heap.size + 1) 84 ([] ++ Dp.memCells vs m.cells ++ [])) := Dp.row_nil r2
  have HK2 := Hid.mk_ (k1.trans k2)
  clear r1 r2 k1 k2 z1 z2
  go_wp2_with (first | (refine Dp.wpList_load_in rfl 79 _ rfl w.heap.size 0 rfl 79 [] _ [] HRS.out rfl _ Tryz.underlying79 rfl (by rw [sizePState, HMS.out]) ?_; intro _) | (refine Dp.wpList_load_in rfl 84 _ rfl (w.heap.size + 1) 0 rfl 84 [] _ [] HRC.out rfl _ Tryz.underlying84 rfl (by rw [sizeCellsT, HMM.out]) ?_; intro _))
  refine (HDO.out _ HK2.out).mono ?_
  rintro e w3 ⟨v, rfl, ho, hf, k3⟩
  have HO3 := Hid.mk_ ho
  have HF3 : Hid (∀ g, v.ownBlock = some g → w.heap.size ≤ g) := fun g hg => by have := hf g hg; have := HK2.out.size; omega
  have HK3 := Hid.mk_ (HK2.out.trans k3)
  obtain ⟨va, vc, ev⟩ := ho.isSlice
  subst ev
  generalize (Dp.vals X).length = N at *
  clear ho hf k3 HRS HRC HK2
  go_wp2_with (refine Dp.wpList_alloc_row rfl 111 rfl _ zeroDeed ?_)
  intro w4 r4 z4 k4
  have HR4 := Hid.mk_ (Dp.row_nil r4)
  clear r4
  go_wp2_with (refine Dp.wpList_store_in rfl 111 _ _ rfl w3.heap.size 0 rfl (Dp.deedCells (.slice va N vc) ST E) rfl 111 [] (Dp.deedCells (.slice none 0 0) 0 0) [] HR4.out rfl rfl (by rw [sizeDeed]; rfl) (by intro v hv; simp [Dp.deedCells] at hv; rcases hv with rfl | rfl | rfl <;> rfl) ?_)
  intro w5 r5 z5 k5
  have r5' : Dp.Row w5 w3.heap.size 111 (Dp.deedCells (.slice va N vc) ST E) := by simpa using r5
  have k35 : Dp.Keeps (fun _ => False) w3 w5 := k4.next k5 (fun i hi e => by omega)
  have HO5 := Hid.mk_ (HO3.out.keep k35 (fun _ _ e => e))
  have HK5 := Hid.mk_ (HK3.out.trans k35)
  have c0 : w5.cell? ⟨w3.heap.size, 0, none⟩ = some (.slice va N vc) := r5'.cell 0
  have c2 : w5.cell? ⟨w3.heap.size, 2, none⟩ = some (.int .i64 E) := r5'.cell 2
  have d2 : w5.drew.cell? ⟨w3.heap.size, 2, none⟩ = some (.int .i64 E) := r5'.drew.cell 2
  clear r5 r5' k4 k5 k35 z4 z5 HR4 HO3 HK3
  by_cases hE : E = 0
  · have hg : (E != 0) = false := by simp [hE]
    have HE0 := Hid.mk_ hE
    clear hE
    go_wp2
    go_ret2
    rw [HE0.out]
    refine ⟨_, rfl, ?_, HF3.out, HK5.out⟩
    rw [HWO.out, if_neg (by simpa using HE0.out)]
    exact HO5.out
  · have hg : (E != 0) = true := by simpa using hE
    go_wp2
    go_region
    go_wp2
    go_ret2
    refine ⟨_, rfl, ?_, fun g hg => by simp [Value.ownBlock] at hg, HK5.out.drew⟩
    rw [HWO.out, if_pos hE]
    exact Dp.Own.nil _ _
end Go.Proofs.YtdipojfngdceoabGreatDoor
