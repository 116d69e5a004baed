/- Steps on the way: ProgPerform, ProgPerform2, ProgStep, ProgSource. -/
import Derived.Test.YtdipojfngdceoaaGreatDoorShQ04
import Derived.Test.YtdipojfngdceoaaGreatDoorShQ07
import Derived.Test.YtdipojfngdceoaaGreatDoorShQ09
import Derived.Test.YtdipojfngdceoaaGreatDoorShQ11
import Derived.Test.YtdipojfngdceoaaGreatDoorShQ12
import Derived.Test.YtdipojfngdceoaaGreatDoorProg
import Derived.WalkKit
import Derived.WalkSpells
import Derived.WalkLawsBesides
namespace Go.Proofs.YtdipojfngdceoaaGreatDoor
open Go.RowKit
namespace Dp
def opFuncs : List FuncId := [128, 129, 130, 131, 132, 133, 134, 135, 136, 137, 138, 139, 140, 141, 142, 143, 144, 145, 146, 147]
def opTable : List Value := opFuncs.map fun f => Value.func (.func f) #[] #[]
end Dp
theorem zeroTable : (Tryz.prog.info? 192).map (fun i => i.zero) = some (some (.agg (List.replicate 20 Value.nilFunc).toArray)) := by kernel_rfl
theorem sizeTable : (Tryz.prog.info? 192).map (·.size) = some 20 := by kernel_rfl
theorem opTable_one : ∀ v ∈ Dp.opTable, v.oneCell' = true := by intro v hv; simp only [Dp.opTable, Dp.opFuncs, List.map_cons, List.map_nil, List.mem_cons, List.not_mem_nil, or_false] at hv; rcases hv with rfl | rfl | rfl | rfl | rfl | rfl | rfl | rfl | rfl | rfl | rfl | rfl | rfl | rfl | rfl | rfl | rfl | rfl | rfl | rfl <;> rfl
set_option maxRecDepth 100000 in
set_option maxHeartbeats 1000000 in
theorem progPerformBy (i : Dp.Ins) (hi : i.Ok) (p : Nat) (w : World) (f : FuncId) (h20 : i.op < 20) (hf : Dp.opTable[i.op.toNat]? = some (.func (.func f) #[] #[])) (hcf : ∀ args wx, (callFunc f args).run Tryz.prog wx = .ok (.enter f args) wx) (R : Ending → World → Prop)
  (hc : ∀ w2, Dp.Keeps (fun _ => False) w w2 → Calls Tryz.prog f #[.pointer (some ⟨p, 0, none⟩), .agg (Dp.pinsCells i).toArray] w2 R) :
  Calls Tryz.prog 118 #[.pointer (some ⟨p, 0, none⟩), .agg (Dp.pinsCells i).toArray] w R := by
 have hop := hi.op
 go_enter Tryz.func118, Tryz.ntmps118
 go_wp2_with (refine Dp.wpList_box_row rfl 179 _ rfl (Dp.pinsCells i) rfl ?_)
 intro w1 r1 z1 k1
 go_wp2_with (refine Dp.wpList_alloc_row rfl 192 rfl _ zeroTable ?_)
 intro w2 r2 z2 k2
 have HT := Hid.mk_ (Dp.row_nil r2)
 go_wp2_with (refine Dp.wpList_store_in rfl 192 _ _ rfl (w.heap.size + 1) 0 rfl Dp.opTable rfl 192 [] _ [] HT.out rfl rfl sizeTable opTable_one ?_)
 intro w3 r3 z3 k3
 have r3' : Dp.Row w3 (w.heap.size + 1) 192 Dp.opTable := by simpa using r3
 have k4 : Dp.Keeps (fun _ => False) w w3 := (k1.trans k2).next k3 (fun k hk e => by omega)
 have hr1 := (r1.keep k2 (fun e => e)).keep k3 (show ¬ w.heap.size = w.heap.size + 1 by omega)
 have q0 : ∀ wx, Dp.Keeps (fun _ => False) w3 wx → wx.cell? ⟨w.heap.size, 0, none⟩ = some (.int .u32 i.op) := fun wx kx => ((hr1.keep kx (fun e => e)).pins).1
 have q1 : ∀ wx, Dp.Keeps (fun _ => False) w3 wx → wx.cell? ⟨w.heap.size, 1, none⟩ = some (.int .u32 i.a) := fun wx kx => ((hr1.keep kx (fun e => e)).pins).2.1
 have q2 : ∀ wx, Dp.Keeps (fun _ => False) w3 wx → wx.cell? ⟨w.heap.size, 2, none⟩ = some (.int .u32 i.b) := fun wx kx => ((hr1.keep kx (fun e => e)).pins).2.2.1
 have q3 : ∀ wx, Dp.Keeps (fun _ => False) w3 wx → wx.cell? ⟨w.heap.size, 3, none⟩ = some (.int .u32 i.c) := fun wx kx => ((hr1.keep kx (fun e => e)).pins).2.2.2.1
 have q4 : ∀ wx, Dp.Keeps (fun _ => False) w3 wx → wx.cell? ⟨w.heap.size, 4, none⟩ = some (.int .u32 (Dp.wrap i.n)) := fun wx kx => ((hr1.keep kx (fun e => e)).pins).2.2.2.2
 have qt : ∀ wx, Dp.Keeps (fun _ => False) w3 wx → wx.cell? ⟨w.heap.size + 1, i.op.toNat, none⟩ = some (.func (.func f) #[] #[]) := fun wx kx => ((r3'.keep kx (fun e => e)).cell _).trans hf
 obtain ⟨i0, _, _, _, _⟩ := hr1.pins
 have hS0 : Dp.Keeps (fun _ => False) w3 w3.drew := (Dp.Keeps.refl _ _).drew
 have HK4 := Hid.mk_ k4.drew
 clear hf r1 r2 r3 r3' k1 k2 k3 k4 z1 z2 z3
 go_wp2
 clear i0
 refine Dp.wp_region_L (fun wx => Dp.Keeps (fun _ => False) w3 wx) 6 mixedP ?_
 refine' Dp.tj 0 hS0 ?_
 simp only [Act.put, Dp.tks]
 refine' Dp.tj 1 hS0 ?_
 simp only [Act.put, Dp.tks]
 refine' Dp.tj 2 hS0 ?_
 simp only [Act.put, Dp.tks]
 refine' Dp.tj 3 hS0 ?_
 simp only [Act.put, Dp.tks]
 refine' Dp.tj 4 hS0 ?_
 simp only [Act.put, Dp.tks]
 refine' Dp.tj 5 hS0 ?_
 simp only [Act.put, Dp.tks]
 refine Dp.wpAnyL_one 6 rfl (by kernel_rfl) (by rfl) (fun K hK => ?_)
 refine Dp.wp_callFn _ _ rfl rfl f rfl #[.pointer (some ⟨p, 0, none⟩), .agg (Dp.pinsCells i).toArray] (by simp only [List.map_toArray, List.map_cons, List.map_nil]; rfl) (hcf _ _) ((hc _ HK4.out).mono ?_)
 intro e w5 hR
 cases e with
 | returned v =>
  refine hK _ _ ⟨fun h => absurd h (Nat.lt_irrefl _), ?_⟩
  clear hK K
  simp only [Act.put, Dp.tks]
  refine Dp.wpAnyL_rest (by kernel_rfl) ?_
  refine' Dp.wpAny_pure 7 rfl (by kernel_rfl) (fun _ _ _ h => h) (.inl ⟨by rfl, ?hp7⟩) ?pest7
  case hp7 => intro wx; go_simp; try with_reducible rfl
  refine wpAny_done (by kernel_rfl) ?_ _
  go_wp2
  go_ret
  exact hR
 | panicked chain => exact ⟨rfl, hR⟩
 | outgrown => exact ⟨{ tmps := #[], defers := [] }, w5, hR⟩
theorem callF_pHalt (args : Array Value) (wx : World) : (callFunc 128 args).run Tryz.prog wx = .ok (.enter 128 args) wx := by kernel_rfl
theorem callF_pAdd (args : Array Value) (wx : World) : (callFunc 129 args).run Tryz.prog wx = .ok (.enter 129 args) wx := by kernel_rfl
theorem callF_pSub (args : Array Value) (wx : World) : (callFunc 130 args).run Tryz.prog wx = .ok (.enter 130 args) wx := by kernel_rfl
theorem callF_pMul (args : Array Value) (wx : World) : (callFunc 131 args).run Tryz.prog wx = .ok (.enter 131 args) wx := by kernel_rfl
theorem callF_pAnd (args : Array Value) (wx : World) : (callFunc 132 args).run Tryz.prog wx = .ok (.enter 132 args) wx := by kernel_rfl
theorem callF_pOr (args : Array Value) (wx : World) : (callFunc 133 args).run Tryz.prog wx = .ok (.enter 133 args) wx := by kernel_rfl
theorem callF_pXor (args : Array Value) (wx : World) : (callFunc 134 args).run Tryz.prog wx = .ok (.enter 134 args) wx := by kernel_rfl
theorem callF_pShl (args : Array Value) (wx : World) : (callFunc 135 args).run Tryz.prog wx = .ok (.enter 135 args) wx := by kernel_rfl
theorem callF_pShr (args : Array Value) (wx : World) : (callFunc 136 args).run Tryz.prog wx = .ok (.enter 136 args) wx := by kernel_rfl
theorem callF_pLess (args : Array Value) (wx : World) : (callFunc 137 args).run Tryz.prog wx = .ok (.enter 137 args) wx := by kernel_rfl
theorem callF_pDiv (args : Array Value) (wx : World) : (callFunc 138 args).run Tryz.prog wx = .ok (.enter 138 args) wx := by kernel_rfl
theorem callF_pSet (args : Array Value) (wx : World) : (callFunc 139 args).run Tryz.prog wx = .ok (.enter 139 args) wx := by kernel_rfl
theorem callF_pHigh (args : Array Value) (wx : World) : (callFunc 140 args).run Tryz.prog wx = .ok (.enter 140 args) wx := by kernel_rfl
theorem callF_pLoad (args : Array Value) (wx : World) : (callFunc 141 args).run Tryz.prog wx = .ok (.enter 141 args) wx := by kernel_rfl
theorem callF_pStore (args : Array Value) (wx : World) : (callFunc 142 args).run Tryz.prog wx = .ok (.enter 142 args) wx := by kernel_rfl
theorem callF_pSame (args : Array Value) (wx : World) : (callFunc 143 args).run Tryz.prog wx = .ok (.enter 143 args) wx := by kernel_rfl
theorem callF_pOther (args : Array Value) (wx : World) : (callFunc 144 args).run Tryz.prog wx = .ok (.enter 144 args) wx := by kernel_rfl
theorem callF_pUnder (args : Array Value) (wx : World) : (callFunc 145 args).run Tryz.prog wx = .ok (.enter 145 args) wx := by kernel_rfl
theorem callF_pCall (args : Array Value) (wx : World) : (callFunc 146 args).run Tryz.prog wx = .ok (.enter 146 args) wx := by kernel_rfl
theorem callF_pAsk (args : Array Value) (wx : World) : (callFunc 147 args).run Tryz.prog wx = .ok (.enter 147 args) wx := by kernel_rfl
set_option maxRecDepth 100000 in
set_option maxHeartbeats 1000000 in
theorem progPerformNone (i : Dp.Ins) (hi : i.Ok) (p : Nat) (w : World) (h20 : 20 ≤ i.op) :
  Calls Tryz.prog 118 #[.pointer (some ⟨p, 0, none⟩), .agg (Dp.pinsCells i).toArray] w fun e w' => e = .returned (.int .i64 2) ∧ Dp.Keeps (fun _ => False) w w' := by
 have hop := hi.op
 go_enter Tryz.func118, Tryz.ntmps118
 go_wp2_with (refine Dp.wpList_box_row rfl 179 _ rfl (Dp.pinsCells i) rfl ?_)
 intro w1 r1 z1 k1
 go_wp2_with (refine Dp.wpList_alloc_row rfl 192 rfl _ zeroTable ?_)
 intro w2 r2 z2 k2
 have HT := Hid.mk_ (Dp.row_nil r2)
 go_wp2_with (refine Dp.wpList_store_in rfl 192 _ _ rfl (w.heap.size + 1) 0 rfl Dp.opTable rfl 192 [] _ [] HT.out rfl rfl sizeTable opTable_one ?_)
 intro w3 r3 z3 k3
 have hr1 := (r1.keep k2 (fun e => e)).keep k3 (show ¬ w.heap.size = w.heap.size + 1 by omega)
 obtain ⟨i0, _, _, _, _⟩ := hr1.pins
 have HK4 : Hid (Dp.Keeps (fun _ => False) w w3) := (k1.trans k2).next k3 (fun k hk e => by omega)
 clear r1 r2 r3 k1 k2 k3 z1 z2 z3
 go_wp2
 go_ret
 exact ⟨rfl, HK4.out⟩
set_option maxRecDepth 100000 in
set_option maxHeartbeats 1000000 in
theorem progPerform {σ : Type} (M : Dp.Memo σ) (F : World → Nat → Prop) (Inv Inv' : World → σ → Prop) (Bad : World → Prop) (g : List PanicEntry) (T : TypeId) (x : Value) (s : Dp.Cs) (i : Dp.Ins) (p : Nat) (w : World) (m : σ) (hs : s.Ok) (hi : i.Ok) (hM : Dp.MemOk Tryz.prog p T x M F Inv Inv' Bad g) (hp : Dp.Row w p 137 (Dp.coreCells s (.iface T x))) (hI : Inv w m) :
  Calls Tryz.prog 118 #[.pointer (some ⟨p, 0, none⟩), .agg (Dp.pinsCells i).toArray] w fun e w' => Dp.after (Dp.perform M s m i) (e = .panicked g ∧ Bad w') fun r => e = .returned (.int .i64 r.2.2) ∧ Dp.Row w' p 137 (Dp.coreCells r.1 (.iface T x)) ∧ Inv' w' r.2.1 := by
 have hop := hi.op
 by_cases h20 : 20 ≤ i.op
 ·refine (progPerformNone i hi p w h20).mono ?_
  rintro e w' ⟨rfl, hk⟩
  rw [Dp.perform_still M s m i (by omega) (by omega) (by omega), Dp.still_none s i h20]
  exact ⟨rfl, hp.keep hk (fun e => e), hM.le (hM.keep hI (hk.mono (fun _ _ e => e.elim))).1⟩
 have h20' : i.op < 20 := by omega
 have hcases : i.op = 0 ∨ i.op = 1 ∨ i.op = 2 ∨ i.op = 3 ∨ i.op = 4 ∨ i.op = 5 ∨ i.op = 6 ∨ i.op = 7 ∨ i.op = 8 ∨ i.op = 9 ∨ i.op = 10 ∨ i.op = 11 ∨ i.op = 12 ∨ i.op = 13 ∨ i.op = 14 ∨ i.op = 15 ∨ i.op = 16 ∨ i.op = 17 ∨ i.op = 18 ∨ i.op = 19 := by omega
 rcases hcases with h | h | h | h | h | h | h | h | h | h | h | h | h | h | h | h | h | h | h | h
 ·refine progPerformBy i hi p w 128 h20' (by rw [h]; rfl) callF_pHalt _ (fun w2 k2 => ?_)
  have hp2 := hp.keep k2 (fun e => e)
  have hI2 := (hM.keep hI (k2.mono (fun _ _ e => e.elim))).1
  refine (progHalt s (.iface T x) i p w2 hs hi hp2).mono ?_
  rintro e w' ⟨rfl, hr, hk⟩
  rw [Dp.perform_still M s m i (by omega) (by omega) (by omega), Dp.still_halt s i hs.len hi h]
  exact ⟨rfl, hr, hM.le (hM.keep hI2 hk).1⟩
 ·refine progPerformBy i hi p w 129 h20' (by rw [h]; rfl) callF_pAdd _ (fun w2 k2 => ?_)
  have hp2 := hp.keep k2 (fun e => e)
  have hI2 := (hM.keep hI (k2.mono (fun _ _ e => e.elim))).1
  refine (progAdd s (.iface T x) i p w2 hs hi hp2).mono ?_
  rintro e w' ⟨rfl, hr, hk⟩
  rw [Dp.perform_still M s m i (by omega) (by omega) (by omega), Dp.still_alu s i (Dp.wrap (s.reg i.b + s.reg i.c)) (by omega) (by omega) (by omega) (by simp [Dp.aluOf, h])]
  exact ⟨rfl, hr, hM.le (hM.keep hI2 hk).1⟩
 ·refine progPerformBy i hi p w 130 h20' (by rw [h]; rfl) callF_pSub _ (fun w2 k2 => ?_)
  have hp2 := hp.keep k2 (fun e => e)
  have hI2 := (hM.keep hI (k2.mono (fun _ _ e => e.elim))).1
  refine (progSub s (.iface T x) i p w2 hs hi hp2).mono ?_
  rintro e w' ⟨rfl, hr, hk⟩
  rw [Dp.perform_still M s m i (by omega) (by omega) (by omega), Dp.still_alu s i (Dp.wrap (s.reg i.b - s.reg i.c)) (by omega) (by omega) (by omega) (by simp [Dp.aluOf, h])]
  exact ⟨rfl, hr, hM.le (hM.keep hI2 hk).1⟩
 ·refine progPerformBy i hi p w 131 h20' (by rw [h]; rfl) callF_pMul _ (fun w2 k2 => ?_)
  have hp2 := hp.keep k2 (fun e => e)
  have hI2 := (hM.keep hI (k2.mono (fun _ _ e => e.elim))).1
  refine (progMul s (.iface T x) i p w2 hs hi hp2).mono ?_
  rintro e w' ⟨rfl, hr, hk⟩
  rw [Dp.perform_still M s m i (by omega) (by omega) (by omega), Dp.still_alu s i (Dp.wrap (s.reg i.b * s.reg i.c)) (by omega) (by omega) (by omega) (by simp [Dp.aluOf, h])]
  exact ⟨rfl, hr, hM.le (hM.keep hI2 hk).1⟩
 ·refine progPerformBy i hi p w 132 h20' (by rw [h]; rfl) callF_pAnd _ (fun w2 k2 => ?_)
  have hp2 := hp.keep k2 (fun e => e)
  have hI2 := (hM.keep hI (k2.mono (fun _ _ e => e.elim))).1
  refine (progAnd s (.iface T x) i p w2 hs hi hp2).mono ?_
  rintro e w' ⟨rfl, hr, hk⟩
  rw [Dp.perform_still M s m i (by omega) (by omega) (by omega), Dp.still_alu s i (Dp.bits 4 (s.reg i.b) (s.reg i.c)) (by omega) (by omega) (by omega) (by simp [Dp.aluOf, h])]
  exact ⟨rfl, hr, hM.le (hM.keep hI2 hk).1⟩
 ·refine progPerformBy i hi p w 133 h20' (by rw [h]; rfl) callF_pOr _ (fun w2 k2 => ?_)
  have hp2 := hp.keep k2 (fun e => e)
  have hI2 := (hM.keep hI (k2.mono (fun _ _ e => e.elim))).1
  refine (progOr s (.iface T x) i p w2 hs hi hp2).mono ?_
  rintro e w' ⟨rfl, hr, hk⟩
  rw [Dp.perform_still M s m i (by omega) (by omega) (by omega), Dp.still_alu s i (Dp.bits 5 (s.reg i.b) (s.reg i.c)) (by omega) (by omega) (by omega) (by simp [Dp.aluOf, h])]
  exact ⟨rfl, hr, hM.le (hM.keep hI2 hk).1⟩
 ·refine progPerformBy i hi p w 134 h20' (by rw [h]; rfl) callF_pXor _ (fun w2 k2 => ?_)
  have hp2 := hp.keep k2 (fun e => e)
  have hI2 := (hM.keep hI (k2.mono (fun _ _ e => e.elim))).1
  refine (progXor s (.iface T x) i p w2 hs hi hp2).mono ?_
  rintro e w' ⟨rfl, hr, hk⟩
  rw [Dp.perform_still M s m i (by omega) (by omega) (by omega), Dp.still_alu s i (Dp.bits 6 (s.reg i.b) (s.reg i.c)) (by omega) (by omega) (by omega) (by simp [Dp.aluOf, h])]
  exact ⟨rfl, hr, hM.le (hM.keep hI2 hk).1⟩
 ·refine progPerformBy i hi p w 135 h20' (by rw [h]; rfl) callF_pShl _ (fun w2 k2 => ?_)
  have hp2 := hp.keep k2 (fun e => e)
  have hI2 := (hM.keep hI (k2.mono (fun _ _ e => e.elim))).1
  refine (progShl s (.iface T x) i p w2 hs hi hp2).mono ?_
  rintro e w' ⟨rfl, hr, hk⟩
  rw [Dp.perform_still M s m i (by omega) (by omega) (by omega), Dp.still_alu s i (Dp.shl (s.reg i.b) (s.reg i.c)) (by omega) (by omega) (by omega) (by simp [Dp.aluOf, h])]
  exact ⟨rfl, hr, hM.le (hM.keep hI2 hk).1⟩
 ·refine progPerformBy i hi p w 136 h20' (by rw [h]; rfl) callF_pShr _ (fun w2 k2 => ?_)
  have hp2 := hp.keep k2 (fun e => e)
  have hI2 := (hM.keep hI (k2.mono (fun _ _ e => e.elim))).1
  refine (progShr s (.iface T x) i p w2 hs hi hp2).mono ?_
  rintro e w' ⟨rfl, hr, hk⟩
  rw [Dp.perform_still M s m i (by omega) (by omega) (by omega), Dp.still_alu s i (Dp.shr (s.reg i.b) (s.reg i.c)) (by omega) (by omega) (by omega) (by simp [Dp.aluOf, h])]
  exact ⟨rfl, hr, hM.le (hM.keep hI2 hk).1⟩
 ·refine progPerformBy i hi p w 137 h20' (by rw [h]; rfl) callF_pLess _ (fun w2 k2 => ?_)
  have hp2 := hp.keep k2 (fun e => e)
  have hI2 := (hM.keep hI (k2.mono (fun _ _ e => e.elim))).1
  refine (progLess s (.iface T x) i p w2 hs hi hp2).mono ?_
  rintro e w' ⟨rfl, hr, hk⟩
  rw [Dp.perform_still M s m i (by omega) (by omega) (by omega), Dp.still_alu s i (Dp.one (decide (Dp.signed (s.reg i.b) < Dp.signed (s.reg i.c)))) (by omega) (by omega) (by omega) (by simp [Dp.aluOf, h])]
  exact ⟨rfl, hr, hM.le (hM.keep hI2 hk).1⟩
 ·refine progPerformBy i hi p w 138 h20' (by rw [h]; rfl) callF_pDiv _ (fun w2 k2 => ?_)
  have hp2 := hp.keep k2 (fun e => e)
  have hI2 := (hM.keep hI (k2.mono (fun _ _ e => e.elim))).1
  by_cases hz : s.reg i.c = 0
  ·refine (progDiv0 s (.iface T x) i p w2 hs hi hp2 hz).mono ?_
   rintro e w' ⟨rfl, hr, hk⟩
   rw [Dp.perform_still M s m i (by omega) (by omega) (by omega), Dp.still_div0 s i h hz]
   exact ⟨rfl, hr, hM.le (hM.keep hI2 hk).1⟩
  ·refine (progDiv s (.iface T x) i p w2 hs hi hp2 hz).mono ?_
   rintro e w' ⟨rfl, hr, hk⟩
   rw [Dp.perform_still M s m i (by omega) (by omega) (by omega), Dp.still_div s i h hz]
   exact ⟨rfl, hr, hM.le (hM.keep hI2 hk).1⟩
 ·refine progPerformBy i hi p w 139 h20' (by rw [h]; rfl) callF_pSet _ (fun w2 k2 => ?_)
  have hp2 := hp.keep k2 (fun e => e)
  have hI2 := (hM.keep hI (k2.mono (fun _ _ e => e.elim))).1
  refine (progSet s (.iface T x) i p w2 hs hi hp2).mono ?_
  rintro e w' ⟨rfl, hr, hk⟩
  rw [Dp.perform_still M s m i (by omega) (by omega) (by omega), Dp.still_alu s i (Dp.wrap (s.reg i.b + i.n)) (by omega) (by omega) (by omega) (by simp [Dp.aluOf, h])]
  exact ⟨rfl, hr, hM.le (hM.keep hI2 hk).1⟩
 ·refine progPerformBy i hi p w 140 h20' (by rw [h]; rfl) callF_pHigh _ (fun w2 k2 => ?_)
  have hp2 := hp.keep k2 (fun e => e)
  have hI2 := (hM.keep hI (k2.mono (fun _ _ e => e.elim))).1
  refine (progHigh s (.iface T x) i p w2 hs hi hp2).mono ?_
  rintro e w' ⟨rfl, hr, hk⟩
  rw [Dp.perform_still M s m i (by omega) (by omega) (by omega), Dp.still_alu s i (Dp.wrap (i.n * 32768)) (by omega) (by omega) (by omega) (by simp [Dp.aluOf, h])]
  exact ⟨rfl, hr, hM.le (hM.keep hI2 hk).1⟩
 ·refine progPerformBy i hi p w 141 h20' (by rw [h]; rfl) callF_pLoad _ (fun w2 k2 => ?_)
  have hp2 := hp.keep k2 (fun e => e)
  have hI2 := (hM.keep hI (k2.mono (fun _ _ e => e.elim))).1
  have e0 : Dp.perform M s m i = match M.load m (Dp.wrap (s.reg i.b + i.n)) with | none => none | some r => if r.2.2 ≠ 0 then some (s, r.1, r.2.2) else some (Dp.putted s i r.2.1, r.1, 0) := by
   unfold Dp.perform; rw [if_pos h]; rfl
  refine (progLoad M F Inv Inv' Bad g T x s i p w2 m hs hi hM hp2 hI2).mono ?_
  intro e w' h2
  rw [e0]
  cases hl : M.load m (Dp.wrap (s.reg i.b + i.n)) with
  | none => rw [hl] at h2; exact h2
  | some r =>
   rw [hl, Dp.after_some] at h2
   obtain ⟨he, hr, hI3⟩ := h2
   by_cases hz : r.2.2 = 0
   ·simp only [hz, ne_eq, not_true_eq_false, if_false] at hr he ⊢
    exact ⟨he, hr, hI3⟩
   ·simp only [hz, ne_eq, not_false_eq_true, if_true] at hr ⊢
    exact ⟨he, hr, hI3⟩
 ·refine progPerformBy i hi p w 142 h20' (by rw [h]; rfl) callF_pStore _ (fun w2 k2 => ?_)
  have hp2 := hp.keep k2 (fun e => e)
  have hI2 := (hM.keep hI (k2.mono (fun _ _ e => e.elim))).1
  have e0 : Dp.perform M s m i = match M.store m (Dp.wrap (s.reg i.b + i.n)) (s.reg i.a) with | none => none | some r => if r.2 ≠ 0 then some (s, r.1, r.2) else some ({ s with pc := Dp.wrap (s.pc + 1) }, r.1, 0) := by
   unfold Dp.perform; rw [if_neg (by omega), if_pos h]; rfl
  refine (progStore M F Inv Inv' Bad g T x s i p w2 m hs hi hM hp2 hI2).mono ?_
  intro e w' h2
  rw [e0]
  cases hl : M.store m (Dp.wrap (s.reg i.b + i.n)) (s.reg i.a) with
  | none => rw [hl] at h2; exact h2
  | some r =>
   rw [hl, Dp.after_some] at h2
   obtain ⟨he, hr, hI3⟩ := h2
   by_cases hz : r.2 = 0
   ·simp only [hz, ne_eq, not_true_eq_false, if_false] at hr he ⊢
    exact ⟨he, hr, hI3⟩
   ·simp only [hz, ne_eq, not_false_eq_true, if_true] at hr ⊢
    exact ⟨he, hr, hI3⟩
 ·refine progPerformBy i hi p w 143 h20' (by rw [h]; rfl) callF_pSame _ (fun w2 k2 => ?_)
  have hp2 := hp.keep k2 (fun e => e)
  have hI2 := (hM.keep hI (k2.mono (fun _ _ e => e.elim))).1
  refine (progSame s (.iface T x) i p w2 hs hi hp2).mono ?_
  rintro e w' ⟨rfl, hr, hk⟩
  rw [Dp.perform_still M s m i (by omega) (by omega) (by omega), Dp.still_same s i hs.len hi h]
  exact ⟨rfl, hr, hM.le (hM.keep hI2 hk).1⟩
 ·refine progPerformBy i hi p w 144 h20' (by rw [h]; rfl) callF_pOther _ (fun w2 k2 => ?_)
  have hp2 := hp.keep k2 (fun e => e)
  have hI2 := (hM.keep hI (k2.mono (fun _ _ e => e.elim))).1
  refine (progOther s (.iface T x) i p w2 hs hi hp2).mono ?_
  rintro e w' ⟨rfl, hr, hk⟩
  rw [Dp.perform_still M s m i (by omega) (by omega) (by omega), Dp.still_other s i hs.len hi h]
  exact ⟨rfl, hr, hM.le (hM.keep hI2 hk).1⟩
 ·refine progPerformBy i hi p w 145 h20' (by rw [h]; rfl) callF_pUnder _ (fun w2 k2 => ?_)
  have hp2 := hp.keep k2 (fun e => e)
  have hI2 := (hM.keep hI (k2.mono (fun _ _ e => e.elim))).1
  refine (progUnder s (.iface T x) i p w2 hs hi hp2).mono ?_
  rintro e w' ⟨rfl, hr, hk⟩
  rw [Dp.perform_still M s m i (by omega) (by omega) (by omega), Dp.still_under s i hs.len hi h]
  exact ⟨rfl, hr, hM.le (hM.keep hI2 hk).1⟩
 ·refine progPerformBy i hi p w 146 h20' (by rw [h]; rfl) callF_pCall _ (fun w2 k2 => ?_)
  have hp2 := hp.keep k2 (fun e => e)
  have hI2 := (hM.keep hI (k2.mono (fun _ _ e => e.elim))).1
  refine (progCall s (.iface T x) i p w2 hs hi hp2).mono ?_
  rintro e w' ⟨rfl, hr, hk⟩
  rw [Dp.perform_still M s m i (by omega) (by omega) (by omega), Dp.still_call s i h]
  exact ⟨rfl, hr, hM.le (hM.keep hI2 hk).1⟩
 ·refine progPerformBy i hi p w 147 h20' (by rw [h]; rfl) callF_pAsk _ (fun w2 k2 => ?_)
  have hp2 := hp.keep k2 (fun e => e)
  have hI2 := (hM.keep hI (k2.mono (fun _ _ e => e.elim))).1
  have e0 : Dp.perform M s m i = match M.source m (s.reg i.b) with | none => none | some r => if r.2.2 ≠ 0 then some (s, r.1, r.2.2) else some (Dp.putted s i (Dp.told r.2.1 (s.reg i.c)), r.1, 0) := by
   unfold Dp.perform; rw [if_neg (by omega), if_neg (by omega), if_pos h]; rfl
  refine (progAsk M F Inv Inv' Bad g T x s i p w2 m hs hi hM hp2 hI2).mono ?_
  intro e w' h2
  rw [e0]
  cases hl : M.source m (s.reg i.b) with
  | none => rw [hl] at h2; exact h2
  | some r =>
   rw [hl, Dp.after_some] at h2
   obtain ⟨he, hr, hI3⟩ := h2
   by_cases hz : r.2.2 = 0
   ·simp only [hz, ne_eq, not_true_eq_false, if_false] at hr he ⊢
    exact ⟨he, hr, hI3⟩
   ·simp only [hz, ne_eq, not_false_eq_true, if_true] at hr ⊢
    exact ⟨he, hr, hI3⟩
namespace Dp
theorem still_ok {s : Cs} (h : s.Ok) (i : Ins) : (still s i).1.Ok := by
 have hp := plain_ok h i
 exact ⟨hp.pc, h.steps, hp.code, hp.len, hp.regs⟩
theorem putted_ok {s : Cs} (h : s.Ok) (i : Ins) (v : Int) (hv : isWord v) : (putted s i v).Ok :=
 ⟨wrap_word _, h.steps, h.code, by simp [putted, h.len], fun x hx => (List.mem_or_eq_of_mem_set hx).elim (h.regs x) (fun e => e ▸ hv)⟩
theorem perform_ok {σ : Type} (M : Memo σ) (s : Cs) (m : σ) (i : Ins) (hs : s.Ok) (hld : ∀ n r, isWord n → M.load m n = some r → isWord r.2.1) (q : Cs × σ × Int) (hq : perform M s m i = some q) : q.1.Ok := by
 unfold perform at hq
 split at hq
 ·cases hl : M.load m (wrap (s.reg i.b + i.n)) with
  | none => rw [hl] at hq; simp at hq
  | some r =>
   rw [hl] at hq
   simp only at hq
   split at hq <;> (simp only [Option.some.injEq] at hq; subst hq)
   ·exact hs
   ·exact putted_ok hs i _ (hld _ _ (wrap_word _) hl)
 ·split at hq
  ·cases hl : M.store m (wrap (s.reg i.b + i.n)) (s.reg i.a) with
   | none => rw [hl] at hq; simp at hq
   | some r =>
    rw [hl] at hq
    simp only at hq
    split at hq <;> (simp only [Option.some.injEq] at hq; subst hq)
    ·exact hs
    ·exact ⟨wrap_word _, hs.steps, hs.code, hs.len, hs.regs⟩
  ·split at hq
   ·cases hl : M.source m (s.reg i.b) with
    | none => rw [hl] at hq; simp at hq
    | some r =>
     rw [hl] at hq
     simp only at hq
     split at hq <;> (simp only [Option.some.injEq] at hq; subst hq)
     ·exact hs
     ·exact putted_ok hs i _ (told_bd _ _)
   ·simp only [Option.some.injEq] at hq; subst hq
    exact still_ok hs i
end Dp
set_option maxRecDepth 100000 in
set_option maxHeartbeats 1000000 in
theorem progStep {σ : Type} (M : Dp.Memo σ) (F : World → Nat → Prop) (Inv Inv' Inv'' : World → σ → Prop) (Bad : World → Prop) (g : List PanicEntry) (T : TypeId) (x : Value) (s : Dp.Cs) (p : Nat) (w : World) (m : σ) (hs : s.Ok) (hM : Dp.MemOk Tryz.prog p T x M F Inv Inv' Bad g) (hM2 : Dp.MemOk Tryz.prog p T x M F Inv' Inv'' Bad g) (hp : Dp.Row w p 137 (Dp.coreCells s (.iface T x))) (hI : Inv w m) :
  Calls Tryz.prog 98 #[.pointer (some ⟨p, 0, none⟩)] w fun e w' => Dp.after (Dp.coreStep M s m) (e = .panicked g ∧ Bad w') fun r => e = .returned (.int .i64 r.2.2) ∧ Dp.Row w' p 137 (Dp.coreCells r.1 (.iface T x)) ∧ Inv'' w' r.2.1 := by
 obtain ⟨_, _, _, c3⟩ := hp.core
 cases hov : s.over with
 | true =>
  rw [hov] at c3
  have HE : Hid (Dp.coreStep M s m = some (s, m, 0)) := by unfold Hid Dp.coreStep; rw [hov]; rfl
  go_enter Tryz.func98, Tryz.ntmps98
  go_wp2
  go_ret
  rw [HE.out]
  exact ⟨rfl, hp, hM2.le (hM.le hI)⟩
 | false =>
  rw [hov] at c3
  have qm : ∀ wx, Dp.Keeps (fun _ => False) w wx → wx.cell? ⟨p, 12, none⟩ = some (.iface T x) := fun wx kx => (hp.keep kx (fun e => e)).coreMem hs.len
  have qp : ∀ wx, Dp.Keeps (fun _ => False) w wx → wx.cell? ⟨p, 0, none⟩ = some (.int .u32 s.pc) := fun wx kx => ((hp.keep kx (fun e => e)).core).1
  have hS0 : Dp.Keeps (fun _ => False) w w.drew := (Dp.Keeps.refl _ _).drew
  have hkk := hM.keep hI (Dp.Keeps.mono (T := fun k => k = p) hS0 (fun _ _ e => e.elim))
  have HI1 := Hid.mk_ hkk.1
  have HP : Hid (¬ F w.drew p) := fun h => (hM.foot hI (hkk.2 _ h)).2 rfl
  clear hkk
  go_enter Tryz.func98, Tryz.ntmps98
  go_wp2
  clear c3
  refine Dp.wp_region_L (fun wx => Dp.Keeps (fun _ => False) w wx) 11 mixedP ?_
  refine' Dp.tj 0 hS0 ?_
  simp only [Act.put, Dp.tks]
  refine' Dp.tj 1 hS0 ?_
  simp only [Act.put, Dp.tks]
  refine' Dp.tj 2 hS0 ?_
  simp only [Act.put, Dp.tks]
  refine' Dp.tj 3 hS0 ?_
  simp only [Act.put, Dp.tks]
  refine' Dp.tj 4 hS0 ?_
  simp only [Act.put, Dp.tks]
  refine' Dp.tj 5 hS0 ?_
  simp only [Act.put, Dp.tks]
  refine' Dp.tj 6 hS0 ?_
  simp only [Act.put, Dp.tks]
  refine' Dp.tj 7 hS0 ?_
  simp only [Act.put, Dp.tks]
  refine' Dp.tj 8 hS0 ?_
  simp only [Act.put, Dp.tks]
  refine' Dp.tj 9 hS0 ?_
  simp only [Act.put, Dp.tks]
  refine' Dp.tj 10 hS0 ?_
  simp only [Act.put, Dp.tks]
  refine Dp.wpAnyL_one 11 rfl (by kernel_rfl) (by rfl) (fun K hK => ?_)
  obtain ⟨f, args, hm, hc⟩ := hM.load w.drew m s.pc hs.pc HI1.out
  refine Dp.wp_invoke _ _ "Load" rfl rfl T x rfl #[.int .u32 s.pc] (by simp only [List.map_toArray, List.map_cons, List.map_nil]; rfl) f args hm (hc.mono ?_)
  clear hm hc f args
  intro e w2 h2
  have HU : Hid (Dp.coreStep M s m = match M.load m s.pc with | none => none | some r => if r.2.2 ≠ 0 then some (s, r.1, r.2.2) else match Dp.perform M s r.1 (Dp.decode r.2.1) with | none => none | some q => if q.2.2 ≠ 0 then some q else some ({ q.1 with steps := Dp.wrap (q.1.steps + 1) }, q.2.1, 0)) := by
   unfold Hid Dp.coreStep; rw [hov]; rfl
  cases hl : M.load m s.pc with
  | none =>
   rw [hl, Dp.after_none] at h2
   obtain ⟨rfl, hbad⟩ := h2
   have e0 := HU.out
   rw [hl] at e0
   exact ⟨rfl, by rw [e0]; exact ⟨rfl, hbad⟩⟩
  | some r =>
   rw [hl, Dp.after_some] at h2
   obtain ⟨rfl, hw, he, hI2, hk2⟩ := h2
   have e0 := HU.out
   rw [hl] at e0
   simp only at e0
   have HL := Hid.mk_ e0
   clear e0 hl
   have hp2 := hp.drew.keep hk2 HP.out
   refine hK _ _ ⟨fun h => absurd h (Nat.lt_irrefl _), ?_⟩
   clear hK K
   simp only [Act.put, Dp.tks]
   refine Dp.wpAnyL_rest (by kernel_rfl) ?_
   refine' Dp.wpAny_pure 12 rfl (by kernel_rfl) (fun _ _ _ h => h) (.inl ⟨by rfl, ?hp12⟩) ?pest12
   case hp12 => intro wx; go_simp; try with_reducible rfl
   simp only [Act.put, Dp.tks]
   refine' Dp.wpAny_pure 13 rfl (by kernel_rfl) (fun _ _ _ h => h) (.inl ⟨by rfl, ?hp13⟩) ?pest13
   case hp13 => intro wx; go_simp; try with_reducible rfl
   simp only [Act.put, Dp.tks]
   refine' Dp.wpAny_pure 14 rfl (by kernel_rfl) (fun _ _ _ h => h) (.inl ⟨by rfl, ?hp14⟩) ?pest14
   case hp14 => intro wx; go_simp; try with_reducible rfl
   simp only [Act.put, Dp.tks]
   refine' Dp.wpAny_pure 15 rfl (by kernel_rfl) (fun _ _ _ h => h) (.inl ⟨by rfl, ?hp15⟩) ?pest15
   case hp15 => intro wx; go_simp; try with_reducible rfl
   simp only [Act.put, Dp.tks]
   refine' Dp.wpAny_pure 16 rfl (by kernel_rfl) (fun _ _ _ h => h) (.inl ⟨by rfl, ?hp16⟩) ?pest16
   case hp16 => intro wx; go_simp; try with_reducible rfl
   simp only [Act.put, Dp.tks]
   refine wpAny_done (by kernel_rfl) ?_ _
   clear qm qp
   have hww := hw
   unfold Dp.isWord at hww
   by_cases hz : r.2.2 = 0
   ·have e1 := HL.out
    rw [if_neg (by simpa using hz)] at e1
    have HQ := Hid.mk_ e1
    clear e1
    rw [hz]
    go_wp2_with fail
    refine (progDecode r.2.1 _ hw).mono ?_
    rintro e w3 ⟨rfl, k3⟩
    have hp3 := hp2.keep k3 (fun e => e)
    have hI3 := (hM2.keep hI2 (k3.mono (fun _ _ e => e.elim))).1
    go_wp2_with fail
    refine (progPerform M F Inv' Inv'' Bad g T x s (Dp.decode r.2.1) p w3 r.1 hs (Dp.decode_ok _ hw) hM2 hp3 hI3).mono ?_
    intro e w4 h4
    cases hq : Dp.perform M s r.1 (Dp.decode r.2.1) with
    | none =>
     rw [hq, Dp.after_none] at h4
     obtain ⟨rfl, hbad⟩ := h4
     have e1 := HQ.out
     rw [hq] at e1
     exact ⟨rfl, by rw [e1]; exact ⟨rfl, hbad⟩⟩
    | some q =>
     rw [hq, Dp.after_some] at h4
     obtain ⟨rfl, hp4, hI4⟩ := h4
     have e1 := HQ.out
     rw [hq] at e1
     simp only at e1
     have HE := Hid.mk_ e1
     have hok := Dp.perform_ok M s r.1 _ hs (fun n r' hn hr' => hM2.word hI2 hn hr') q hq
     clear e1 hq
     have hst := hok.steps
     unfold Dp.isWord at hst
     obtain ⟨_, c1, _, _⟩ := hp4.core
     have f1 := hp4.frozen 1
     have HR : Hid (Dp.Row (w4.setCell ⟨p, 1, none⟩ (.int .u32 (Dp.wrap (q.1.steps + 1)))) p 137 (Dp.coreCells { q.1 with steps := Dp.wrap (q.1.steps + 1) } (.iface T x))) := hp4.set 1 _
     have HK : Hid (Dp.Keeps (fun k => k = p) w4 (w4.setCell ⟨p, 1, none⟩ (.int .u32 (Dp.wrap (q.1.steps + 1))))) := Dp.Keeps.setCell (S := fun k => k = p) (p := ⟨p, 1, none⟩) (Dp.Keeps.refl _ _) (.inr rfl) _
     by_cases hz2 : q.2.2 = 0
     ·have e2 := HE.out
      rw [if_neg (by simpa using hz2)] at e2
      have HF := Hid.mk_ e2
      clear e2
      rw [hz2]
      go_wp2
      go_ret
      rw [HF.out]
      exact ⟨rfl, HR.out, hM2.keep' hI4 HK.out⟩
     ·have e2 := HE.out
      rw [if_pos hz2] at e2
      have HF := Hid.mk_ e2
      clear e2
      go_wp2
      go_ret
      rw [HF.out]
      exact ⟨rfl, hp4, hI4⟩
   ·have e1 := HL.out
    rw [if_pos hz] at e1
    have HQ := Hid.mk_ e1
    clear e1
    go_wp2
    go_ret
    rw [HQ.out]
    exact ⟨rfl, hp2, hM2.le hI2⟩
namespace Dp
def srcErr (x : Option (List UInt8)) : Int := match x with
 | none => 5
 | some _ => 0
theorem cell_new_one (w : World) (v : Value) (e : TypeId) : (w.alloc (.cells #[v] e)).cell? ⟨w.heap.size, 0, none⟩ = some v := by
 have h := Row.allocNew w e [v]
 exact h.cell 0
theorem parts_one {w : World} {v : Value} {e : TypeId} {l : List UInt8} (h : Bytes (w.alloc (.cells #[v] e)) v l) : Parts (w.alloc (.cells #[v] e)) (.slice (some ⟨w.heap.size, 0, none⟩) 1 1) [l] := by
 refine ⟨w.heap.size, 0, some ⟨w.heap.size, 0, none⟩, 1, rfl, by simp [maxLen], fun _ => rfl, fun i hi => ?_⟩
 obtain rfl : i = 0 := by simpa using hi
 exact ⟨v, cell_new_one w v e, h⟩
def BytesIn (G : Nat → Prop) (w : World) (v : Value) (l : List UInt8) : Prop :=
 ∃ b o ad cap, v = .slice ad l.length cap ∧ l.length ≤ maxLen ∧ (l ≠ [] → G b ∧ ad = some ⟨b, o, none⟩) ∧ ∀ j (h : j < l.length), w.cell? ⟨b, o + j, none⟩ = some (.int .u8 (l[j].toNat : Int))
theorem BytesIn.bytes {G : Nat → Prop} {w : World} {v : Value} {l : List UInt8} (h : BytesIn G w v l) : Bytes w v l := by
 obtain ⟨b, o, ad, cap, h1, h2, h3, h4⟩ := h
 exact ⟨b, o, ad, cap, h1, h2, fun e => (h3 e).2, h4⟩
theorem BytesIn.keep {G S : Nat → Prop} {w w' : World} {v : Value} {l : List UInt8} (h : BytesIn G w v l) (k : Keeps S w w') (hG : ∀ q, G q → q < w.heap.size ∧ ¬ S q) : BytesIn G w' v l := by
 obtain ⟨b, o, ad, cap, h1, h2, h3, h4⟩ := h
 refine ⟨b, o, ad, cap, h1, h2, h3, fun j hj => ?_⟩
 have hb := hG b (h3 (by intro e; simp [e] at hj)).1
 exact (k.cell (p := ⟨b, o + j, none⟩) hb.1 hb.2).trans (h4 j hj)
theorem findSrc_some (srcs : List (List UInt8)) (name : Int) (k : Nat) (hk : k < srcs.length) (hno : ∀ j (h : j < srcs.length), j < k → sum srcs[j] ≠ name) (h : sum srcs[k] = name) : findSrc srcs name = some srcs[k] := by
 unfold findSrc
 rw [List.find?_eq_some_iff_getElem]
 exact ⟨by simpa using h, k, hk, rfl, fun j hj => by simpa using hno j (by omega) hj⟩
theorem findSrc_none (srcs : List (List UInt8)) (name : Int) (hno : ∀ j (h : j < srcs.length), sum srcs[j] ≠ name) : findSrc srcs name = none := by
 unfold findSrc
 rw [List.find?_eq_none]
 intro l hl
 obtain ⟨j, hj, rfl⟩ := List.getElem_of_mem hl
 simpa using hno j hj
end Dp
set_option maxRecDepth 100000 in
set_option maxHeartbeats 1000000 in
theorem progSourceIn (G : Nat → Prop) (w : World) (b o : Nat) (vs : Value) (srcs : List (List UInt8)) (name : Int) (hc : w.cell? ⟨b, o, none⟩ = some vs) (hP : Dp.PartsIn G w vs srcs) (hG : ∀ q, G q → q < w.heap.size) :
  Calls Tryz.prog 170 #[.pointer (some ⟨b, o, none⟩), .int .u32 name] w fun e w' => (∃ v, e = .returned (.tuple #[v, .int .i64 (Dp.srcErr (Dp.findSrc srcs name))]) ∧ Dp.BytesIn G w' v ((Dp.findSrc srcs name).getD [])) ∧ Dp.Keeps (fun _ => False) w w' := by
 obtain ⟨b2, o2, ad, cap, rfl, hlen, hne, hcells⟩ := hP
 unfold maxLen at hlen
 have HC := Hid.mk_ hcells
 have HN := Hid.mk_ hne
 clear hcells hne
 go_enter Tryz.func170, Tryz.ntmps170
 go_wp2
 go_loopw [7, 13] (fun _ i wr => ∃ k : Nat, k ≤ srcs.length ∧ i = .int .i64 k ∧ (∀ j (h : j < srcs.length), j < k → Dp.sum srcs[j] ≠ name) ∧ Dp.Keeps (fun _ => False) w wr) (fun _ i _ => srcs.length - (intOf i).toNat)
 case atStart => exact ⟨0, Nat.zero_le _, rfl, fun j _ hj => absurd hj (by omega), Dp.Keeps.refl _ _⟩
 case round =>
  obtain ⟨k, hk, rfl, hno, kr⟩ := hrel
  have HNO := Hid.mk_ hno
  clear hno
  by_cases hlt : k < srcs.length
  ·obtain ⟨hgb, rfl⟩ := HN.out (by intro e; simp [e] at hlt)
   obtain ⟨b3, o3, ad3, cap3, hc1, hl3, hn3, hc3⟩ := HC.out k hlt
   have hb2 := hG b2 hgb
   have ck : wr.cell? ⟨b2, o2 + k, none⟩ = some (.slice ad3 srcs[k].length cap3) := (kr.cell (p := ⟨b2, o2 + k, none⟩) hb2 (fun e => e)).trans hc1
   have HB : Hid (∀ wx, Dp.Keeps (fun _ => False) wr wx → Dp.BytesIn G wx (.slice ad3 srcs[k].length cap3) srcs[k]) := by
    intro wx kx
    refine ⟨b3, o3, ad3, cap3, rfl, hl3, hn3, fun j hj => ?_⟩
    have hb3 := hG b3 (hn3 (by intro e; simp [e] at hj)).1
    exact ((kr.trans kx).cell (p := ⟨b3, o3 + j, none⟩) hb3 (fun e => e)).trans (hc3 j hj)
   clear hc1 hl3 hn3 hc3
   have hsb := Dp.sum_bd srcs[k]
   go_wp2_with fail
   refine (digSum _ [srcs[k]] _ (Dp.parts_one (HB.out _ ((Dp.Keeps.refl _ _).alloc _)).bytes)).mono ?_
   rintro e w4 ⟨rfl, rfl⟩
   rw [List.flatten_singleton]
   have KR := Hid.mk_ (kr.alloc (.cells #[.slice ad3 srcs[k].length cap3] 47))
   have HB4 := Hid.mk_ (HB.out _ ((Dp.Keeps.refl _ _).alloc (.cells #[.slice ad3 srcs[k].length cap3] 47)))
   by_cases hs : Dp.sum srcs[k] = name
   ·have HF := Hid.mk_ (Dp.findSrc_some srcs name k hlt HNO.out hs)
    rw [hs]
    clear ck HB
    go_wp2
    go_ret2
    rw [HF.out]
    exact ⟨⟨_, rfl, HB4.out⟩, KR.out⟩
   ·have HF : Hid (∀ j (h : j < srcs.length), j < k + 1 → Dp.sum srcs[j] ≠ name) := by
     intro j hj hjk
     by_cases e : j = k
     ·subst e; exact hs
     ·exact HNO.out j hj (by omega)
    generalize Dp.sum srcs[k] = sk at *
    clear ck HB
    go_wp2
    go_roundw
    case rel => exact ⟨k + 1, by omega, by go_num, HF.out, KR.out⟩
    case measure => simp [intOf]; omega
  ·have HF := Hid.mk_ (Dp.findSrc_none srcs name (fun j hj => HNO.out j hj (by omega)))
   go_wp2
   go_ret2
   rw [HF.out]
   exact ⟨⟨_, rfl, 0, 0, none, 0, rfl, by simp [maxLen], fun e => absurd rfl e, fun j hj => absurd hj (by simp)⟩, kr⟩
theorem progSource (G : Nat → Prop) (w : World) (b o : Nat) (vs : Value) (srcs : List (List UInt8)) (name : Int) (hc : w.cell? ⟨b, o, none⟩ = some vs) (hP : Dp.PartsIn G w vs srcs) (hG : ∀ q, G q → q < w.heap.size) :
  Calls Tryz.prog 170 #[.pointer (some ⟨b, o, none⟩), .int .u32 name] w fun e w' => (∃ v, e = .returned (.tuple #[v, .int .i64 (Dp.srcErr (Dp.findSrc srcs name))]) ∧ Dp.Bytes w' v ((Dp.findSrc srcs name).getD [])) ∧ Dp.Keeps (fun _ => False) w w' := by
 refine (progSourceIn G w b o vs srcs name hc hP hG).mono ?_
 rintro e w' ⟨⟨v, h1, h2⟩, h3⟩
 exact ⟨⟨v, h1, h2.bytes⟩, h3⟩
end Go.Proofs.YtdipojfngdceoaaGreatDoor
