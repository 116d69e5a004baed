/- Steps on the way: ProgCore2, ProgPerform, ProgPerform2. -/
import Derived.Test.YtdipojfngdceoaaGreatDoorShP04
import Derived.Test.YtdipojfngdceoaaGreatDoorShP09
import Derived.Test.YtdipojfngdceoaaGreatDoorShP12
import Derived.Test.YtdipojfngdceoaaGreatDoorShP13
import Derived.Test.YtdipojfngdceoaaGreatDoorProg
import Derived.WalkKit
import Derived.WalkSpells
import Derived.WalkLawsBesides
import Derived.BigQuiet
import Derived.Deep.QuietTactic
/- The program's core: HALT, HIGH and CALL. -/
namespace Go.Proofs.YtdipojfngdceoaaGreatDoor
open Go.RowKit

set_option maxRecDepth 100000 in
set_option maxHeartbeats 1000000 in
theorem progHalt (s : Dp.Cs) (mem : Value) (i : Dp.Ins) (p : Nat) (w : World) (hs : s.Ok) (hi : i.Ok) (hp : Dp.Row w p 137 (Dp.coreCells s mem)) :
  Calls Tryz.prog 128 #[.pointer (some ⟨p, 0, none⟩), .agg (Dp.pinsCells i).toArray] w fun e w' => e = .returned (.int .i64 0) ∧ Dp.Row w' p 137 (Dp.coreCells { s with over := true, code := s.reg i.a } mem) ∧ Dp.Keeps (fun k => k = p) w w' := by
 have hlt := hp.lt
 go_enter Tryz.func128, Tryz.ntmps128
 go_wp2_with (refine Dp.wpList_box_row rfl 179 _ rfl (Dp.pinsCells i) rfl ?_)
 intro w1 r1 z1 k1
 have hp1 := hp.keep k1 (fun e => e)
 obtain ⟨_, _, _, c3⟩ := hp1.core
 have f3 := hp1.frozen 3
 have hne2 : w.heap.size ≠ p := by omega
 have hp2 : Dp.Row (w1.setCell ⟨p, 3, none⟩ (.bool true)) p 137 (Dp.coreCells { s with over := true } mem) := hp1.set 3 (.bool true)
 have r2 := r1.setOther ⟨p, 3, none⟩ (.bool true) hne2
 obtain ⟨_, ia, _, _, _⟩ := r2.pins
 obtain ⟨_, _, c2, _⟩ := hp2.core
 have cr := hp2.coreReg hs.len i.a hi.a
 have er : Dp.Cs.reg { s with over := true } i.a = s.reg i.a := rfl
 rw [er] at cr
 have f2 := hp2.frozen 2
 have hia := hi.a
 have hra := hs.reg i.a
 unfold Dp.isWord at hra
 have HR : Hid (Dp.Row ((w1.setCell ⟨p, 3, none⟩ (.bool true)).setCell ⟨p, 2, none⟩ (.int .u32 (s.reg i.a))) p 137 (Dp.coreCells { s with over := true, code := s.reg i.a } mem)) := hp2.set 2 (.int .u32 (s.reg i.a))
 have HK : Hid (Dp.Keeps (fun k => k = p) w ((w1.setCell ⟨p, 3, none⟩ (.bool true)).setCell ⟨p, 2, none⟩ (.int .u32 (s.reg i.a)))) :=
  (Dp.Keeps.setCell (p := ⟨p, 3, none⟩) (Dp.Keeps.mono (T := fun k => k = p) k1 (fun _ _ e => e.elim)) (.inr rfl) _).setCell (p := ⟨p, 2, none⟩) (.inr rfl) _
 clear hp hp1 hp2 r1 r2 k1 er
 go_wp2
 go_region
 go_wp2
 go_ret
 exact ⟨rfl, HR.out.drew, HK.out.drew⟩

set_option maxRecDepth 100000 in
set_option maxHeartbeats 1000000 in
theorem progHigh (s : Dp.Cs) (mem : Value) (i : Dp.Ins) (p : Nat) (w : World) (hs : s.Ok) (hi : i.Ok) (hp : Dp.Row w p 137 (Dp.coreCells s mem)) :
  Calls Tryz.prog 140 #[.pointer (some ⟨p, 0, none⟩), .agg (Dp.pinsCells i).toArray] w fun e w' => e = .returned (.int .i64 0) ∧ Dp.Row w' p 137 (Dp.coreCells (Dp.putted s i (Dp.wrap (i.n * 32768))) mem) ∧ Dp.Keeps (fun k => k = p) w w' := by
 have HV : Hid (Dp.wrap i.n * 32768 % 4294967296 = Dp.wrap (i.n * 32768)) := by unfold Hid Dp.wrap; omega
 have hnw := Dp.wrap_word i.n
 unfold Dp.isWord at hnw
 go_enter Tryz.func140, Tryz.ntmps140
 go_wp2_with (refine Dp.wpList_box_row rfl 179 _ rfl (Dp.pinsCells i) rfl ?_)
 intro w1 r1 z1 k1
 have hp1 := hp.keep k1 (fun e => e)
 obtain ⟨i0, i1, i2, i3, i4⟩ := r1.pins
 go_wp2_with fail
 refine (progPut s mem i _ p _ hs hi hp1).mono ?_
 rintro e w' ⟨rfl, hr, hk⟩
 rw [HV.out] at hr
 go_wp2
 go_ret
 exact ⟨rfl, hr, (Dp.Keeps.mono (T := fun k => k = p) k1 (fun _ _ e => e.elim)).next hk (fun _ _ e => e)⟩

set_option maxRecDepth 100000 in
set_option maxHeartbeats 1000000 in
theorem progCall (s : Dp.Cs) (mem : Value) (i : Dp.Ins) (p : Nat) (w : World) (hs : s.Ok) (hi : i.Ok) (hp : Dp.Row w p 137 (Dp.coreCells s mem)) :
  Calls Tryz.prog 146 #[.pointer (some ⟨p, 0, none⟩), .agg (Dp.pinsCells i).toArray] w fun e w' => e = .returned (.int .i64 0) ∧ Dp.Row w' p 137 (Dp.coreCells { s with pc := Dp.wrap (s.reg i.b + i.n), regs := s.regs.set i.a.toNat (Dp.wrap (s.pc + 1)) } mem) ∧ Dp.Keeps (fun k => k = p) w w' := by
 have hlt := hp.lt
 have hpc := hs.pc
 unfold Dp.isWord at hpc
 go_enter Tryz.func146, Tryz.ntmps146
 go_wp2_with (refine Dp.wpList_box_row rfl 179 _ rfl (Dp.pinsCells i) rfl ?_)
 intro w1 r1 z1 k1
 have hp1 := hp.keep k1 (fun e => e)
 have hne2 : w.heap.size ≠ p := by omega
 obtain ⟨_, i1, i2, _, i4⟩ := r1.pins
 obtain ⟨c0, _, _, _⟩ := hp1.core
 have cb := hp1.coreReg hs.len i.b hi.b
 have ca := hp1.coreReg hs.len i.a hi.a
 have fa := hp1.frozen (4 + i.a.toNat)
 have hp2 := hp1.set (4 + i.a.toNat) (.int .u32 (Dp.wrap (s.pc + 1)))
 rw [Dp.coreCells_put s mem hs.len i.a _ hi.a] at hp2
 obtain ⟨d0, _, _, _⟩ := hp2.core
 have e0 : (s.put i.a (Dp.wrap (s.pc + 1))).pc = s.pc := rfl
 rw [e0] at d0
 have g0 := hp2.frozen 0
 have hia := hi.a
 have hib := hi.b
 have hb := hs.reg i.b
 have hnw := Dp.wrap_word i.n
 unfold Dp.isWord at hb hnw
 have HR : Hid (Dp.Row ((w1.setCell ⟨p, 4 + i.a.toNat, none⟩ (.int .u32 (Dp.wrap (s.pc + 1)))).setCell ⟨p, 0, none⟩ (.int .u32 (Dp.wrap (s.reg i.b + i.n)))) p 137 (Dp.coreCells { s with pc := Dp.wrap (s.reg i.b + i.n), regs := s.regs.set i.a.toNat (Dp.wrap (s.pc + 1)) } mem)) := hp2.set 0 (.int .u32 (Dp.wrap (s.reg i.b + i.n)))
 have HK : Hid (Dp.Keeps (fun k => k = p) w ((w1.setCell ⟨p, 4 + i.a.toNat, none⟩ (.int .u32 (Dp.wrap (s.pc + 1)))).setCell ⟨p, 0, none⟩ (.int .u32 (Dp.wrap (s.reg i.b + i.n))))) :=
  (Dp.Keeps.setCell (p := ⟨p, 4 + i.a.toNat, none⟩) (Dp.Keeps.mono (T := fun k => k = p) k1 (fun _ _ e => e.elim)) (.inr rfl) _).setCell (p := ⟨p, 0, none⟩) (.inr rfl) _
 clear hp hp1 hp2 r1 k1 e0
 unfold Dp.wrap at d0 g0 i4 hnw
 go_wp2
 go_region
 go_wp2
 go_region
 go_wp2
 go_ret
 exact ⟨rfl, HR.out.drew.drew, HK.out.drew.drew⟩

end Go.Proofs.YtdipojfngdceoaaGreatDoor

/- The program's core: what the table tells of the instruction is done. -/
namespace Go.Proofs.YtdipojfngdceoaaGreatDoor
open Go.RowKit

namespace Dp
def opFuncs : List FuncId := [128, 129, 130, 131, 132, 133, 134, 135, 136, 137, 138, 139, 140, 141, 142, 143, 144, 145, 146, 147]
def opTable : List Value := opFuncs.map fun f => Value.func (.func f) #[] #[]
end Dp
theorem zeroTable : (Tryz.prog.info? 192).map (fun i => i.zero) = some (some (.agg (List.replicate 20 Value.nilFunc).toArray)) := by kernel_rfl
theorem sizeTable : (Tryz.prog.info? 192).map (·.size) = some 20 := by kernel_rfl

theorem opTable_one : ∀ v ∈ Dp.opTable, v.oneCell' = true := by intro v hv; simp only [Dp.opTable, Dp.opFuncs, List.map_cons, List.map_nil, List.mem_cons, List.not_mem_nil, or_false] at hv; rcases hv with rfl | rfl | rfl | rfl | rfl | rfl | rfl | rfl | rfl | rfl | rfl | rfl | rfl | rfl | rfl | rfl | rfl | rfl | rfl | rfl <;> rfl

set_option maxRecDepth 100000 in
set_option maxHeartbeats 1000000 in
theorem progPerformBy (i : Dp.Ins) (hi : i.Ok) (p : Nat) (w : World) (f : FuncId) (h20 : i.op < 20) (hf : Dp.opTable[i.op.toNat]? = some (.func (.func f) #[] #[])) (hcf : ∀ args wx, (callFunc f args).run Tryz.prog wx = .ok (.enter f args) wx) (R : Ending → World → Prop)
  (hc : ∀ w2, Dp.Keeps (fun _ => False) w w2 → Calls Tryz.prog f #[.pointer (some ⟨p, 0, none⟩), .agg (Dp.pinsCells i).toArray] w2 R) :
  Calls Tryz.prog 118 #[.pointer (some ⟨p, 0, none⟩), .agg (Dp.pinsCells i).toArray] w R := by
 have hop := hi.op
 go_enter Tryz.func118, Tryz.ntmps118
 go_wp2_with (refine Dp.wpList_box_row rfl 179 _ rfl (Dp.pinsCells i) rfl ?_)
 intro w1 r1 z1 k1
 go_wp2_with (refine Dp.wpList_alloc_row rfl 192 rfl _ zeroTable ?_)
 intro w2 r2 z2 k2
 have HT := Hid.mk_ (Dp.row_nil r2)
 go_wp2_with (refine Dp.wpList_store_in rfl 192 _ _ rfl (w.heap.size + 1) 0 rfl Dp.opTable rfl 192 [] _ [] HT.out rfl rfl sizeTable opTable_one ?_)
 intro w3 r3 z3 k3
 have r3' : Dp.Row w3 (w.heap.size + 1) 192 Dp.opTable := by simpa using r3
 have k4 : Dp.Keeps (fun _ => False) w w3 := (k1.trans k2).next k3 (fun k hk e => by omega)
 have hr1 := (r1.keep k2 (fun e => e)).keep k3 (show ¬ w.heap.size = w.heap.size + 1 by omega)
 have q0 : ∀ wx, Dp.Keeps (fun _ => False) w3 wx → wx.cell? ⟨w.heap.size, 0, none⟩ = some (.int .u32 i.op) := fun wx kx => ((hr1.keep kx (fun e => e)).pins).1
 have q1 : ∀ wx, Dp.Keeps (fun _ => False) w3 wx → wx.cell? ⟨w.heap.size, 1, none⟩ = some (.int .u32 i.a) := fun wx kx => ((hr1.keep kx (fun e => e)).pins).2.1
 have q2 : ∀ wx, Dp.Keeps (fun _ => False) w3 wx → wx.cell? ⟨w.heap.size, 2, none⟩ = some (.int .u32 i.b) := fun wx kx => ((hr1.keep kx (fun e => e)).pins).2.2.1
 have q3 : ∀ wx, Dp.Keeps (fun _ => False) w3 wx → wx.cell? ⟨w.heap.size, 3, none⟩ = some (.int .u32 i.c) := fun wx kx => ((hr1.keep kx (fun e => e)).pins).2.2.2.1
 have q4 : ∀ wx, Dp.Keeps (fun _ => False) w3 wx → wx.cell? ⟨w.heap.size, 4, none⟩ = some (.int .u32 (Dp.wrap i.n)) := fun wx kx => ((hr1.keep kx (fun e => e)).pins).2.2.2.2
 have qt : ∀ wx, Dp.Keeps (fun _ => False) w3 wx → wx.cell? ⟨w.heap.size + 1, i.op.toNat, none⟩ = some (.func (.func f) #[] #[]) := fun wx kx => ((r3'.keep kx (fun e => e)).cell _).trans hf
 obtain ⟨i0, _, _, _, _⟩ := hr1.pins
 have hS0 : Dp.Keeps (fun _ => False) w3 w3.drew := (Dp.Keeps.refl _ _).drew
 have HK4 := Hid.mk_ k4.drew
 clear hf r1 r2 r3 r3' k1 k2 k3 k4 z1 z2 z3
 go_wp2
 clear i0
 refine Dp.wp_region_L (fun wx => Dp.Keeps (fun _ => False) w3 wx) 6 mixedP ?_
 refine' Dp.wpAnyL_take 0 rfl (by kernel_rfl) (fun _ _ _ h => h) (by rfl) ?hy0 hS0 ?rest0
 case hy0 => intro wx hSx; go_simp; try with_reducible rfl
 simp only [Act.put, Dp.tks]
 refine' Dp.wpAnyL_take 1 rfl (by kernel_rfl) (fun _ _ _ h => h) (by rfl) ?hy1 hS0 ?rest1
 case hy1 => intro wx hSx; go_simp; try with_reducible rfl
 simp only [Act.put, Dp.tks]
 refine' Dp.wpAnyL_take 2 rfl (by kernel_rfl) (fun _ _ _ h => h) (by rfl) ?hy2 hS0 ?rest2
 case hy2 => intro wx hSx; go_simp; try with_reducible rfl
 simp only [Act.put, Dp.tks]
 refine' Dp.wpAnyL_take 3 rfl (by kernel_rfl) (fun _ _ _ h => h) (by rfl) ?hy3 hS0 ?rest3
 case hy3 => intro wx hSx; go_simp; try with_reducible rfl
 simp only [Act.put, Dp.tks]
 refine' Dp.wpAnyL_take 4 rfl (by kernel_rfl) (fun _ _ _ h => h) (by rfl) ?hy4 hS0 ?rest4
 case hy4 => intro wx hSx; go_simp; try with_reducible rfl
 simp only [Act.put, Dp.tks]
 refine' Dp.wpAnyL_take 5 rfl (by kernel_rfl) (fun _ _ _ h => h) (by rfl) ?hy5 hS0 ?rest5
 case hy5 => intro wx hSx; go_simp; try with_reducible rfl
 simp only [Act.put, Dp.tks]
 refine Dp.wpAnyL_one 6 rfl (by kernel_rfl) (by rfl) (fun K hK => ?_)
 refine Dp.wp_callFn _ _ rfl rfl f rfl #[.pointer (some ⟨p, 0, none⟩), .agg (Dp.pinsCells i).toArray] (by simp only [List.map_toArray, List.map_cons, List.map_nil]; rfl) (hcf _ _) ((hc _ HK4.out).mono ?_)
 intro e w5 hR
 cases e with
 | returned v =>
  refine hK _ _ ⟨fun h => absurd h (Nat.lt_irrefl _), ?_⟩
  clear hK K
  simp only [Act.put, Dp.tks]
  refine Dp.wpAnyL_rest (by kernel_rfl) ?_
  refine' Dp.wpAny_pure 7 rfl (by kernel_rfl) (fun _ _ _ h => h) (.inl ⟨by rfl, ?hp7⟩) ?pest7
  case hp7 => intro wx; go_simp; try with_reducible rfl
  refine wpAny_done (by kernel_rfl) ?_ _
  go_wp2
  go_ret
  exact hR
 | panicked chain => exact ⟨rfl, hR⟩
 | outgrown => exact ⟨{ tmps := #[], defers := [] }, w5, hR⟩

end Go.Proofs.YtdipojfngdceoaaGreatDoor

/- The program's core: an instruction is performed, over any memory. -/
namespace Go.Proofs.YtdipojfngdceoaaGreatDoor
open Go.RowKit

theorem callF_pHalt (args : Array Value) (wx : World) : (callFunc 128 args).run Tryz.prog wx = .ok (.enter 128 args) wx := by kernel_rfl
theorem callF_pAdd (args : Array Value) (wx : World) : (callFunc 129 args).run Tryz.prog wx = .ok (.enter 129 args) wx := by kernel_rfl
theorem callF_pSub (args : Array Value) (wx : World) : (callFunc 130 args).run Tryz.prog wx = .ok (.enter 130 args) wx := by kernel_rfl
theorem callF_pMul (args : Array Value) (wx : World) : (callFunc 131 args).run Tryz.prog wx = .ok (.enter 131 args) wx := by kernel_rfl
theorem callF_pAnd (args : Array Value) (wx : World) : (callFunc 132 args).run Tryz.prog wx = .ok (.enter 132 args) wx := by kernel_rfl
theorem callF_pOr (args : Array Value) (wx : World) : (callFunc 133 args).run Tryz.prog wx = .ok (.enter 133 args) wx := by kernel_rfl
theorem callF_pXor (args : Array Value) (wx : World) : (callFunc 134 args).run Tryz.prog wx = .ok (.enter 134 args) wx := by kernel_rfl
theorem callF_pShl (args : Array Value) (wx : World) : (callFunc 135 args).run Tryz.prog wx = .ok (.enter 135 args) wx := by kernel_rfl
theorem callF_pShr (args : Array Value) (wx : World) : (callFunc 136 args).run Tryz.prog wx = .ok (.enter 136 args) wx := by kernel_rfl
theorem callF_pLess (args : Array Value) (wx : World) : (callFunc 137 args).run Tryz.prog wx = .ok (.enter 137 args) wx := by kernel_rfl
theorem callF_pDiv (args : Array Value) (wx : World) : (callFunc 138 args).run Tryz.prog wx = .ok (.enter 138 args) wx := by kernel_rfl
theorem callF_pSet (args : Array Value) (wx : World) : (callFunc 139 args).run Tryz.prog wx = .ok (.enter 139 args) wx := by kernel_rfl
theorem callF_pHigh (args : Array Value) (wx : World) : (callFunc 140 args).run Tryz.prog wx = .ok (.enter 140 args) wx := by kernel_rfl
theorem callF_pLoad (args : Array Value) (wx : World) : (callFunc 141 args).run Tryz.prog wx = .ok (.enter 141 args) wx := by kernel_rfl
theorem callF_pStore (args : Array Value) (wx : World) : (callFunc 142 args).run Tryz.prog wx = .ok (.enter 142 args) wx := by kernel_rfl
theorem callF_pSame (args : Array Value) (wx : World) : (callFunc 143 args).run Tryz.prog wx = .ok (.enter 143 args) wx := by kernel_rfl
theorem callF_pOther (args : Array Value) (wx : World) : (callFunc 144 args).run Tryz.prog wx = .ok (.enter 144 args) wx := by kernel_rfl
theorem callF_pUnder (args : Array Value) (wx : World) : (callFunc 145 args).run Tryz.prog wx = .ok (.enter 145 args) wx := by kernel_rfl
theorem callF_pCall (args : Array Value) (wx : World) : (callFunc 146 args).run Tryz.prog wx = .ok (.enter 146 args) wx := by kernel_rfl
theorem callF_pAsk (args : Array Value) (wx : World) : (callFunc 147 args).run Tryz.prog wx = .ok (.enter 147 args) wx := by kernel_rfl

set_option maxRecDepth 100000 in
set_option maxHeartbeats 1000000 in
theorem progPerformNone (i : Dp.Ins) (hi : i.Ok) (p : Nat) (w : World) (h20 : 20 ≤ i.op) :
  Calls Tryz.prog 118 #[.pointer (some ⟨p, 0, none⟩), .agg (Dp.pinsCells i).toArray] w fun e w' => e = .returned (.int .i64 2) ∧ Dp.Keeps (fun _ => False) w w' := by
 have hop := hi.op
 go_enter Tryz.func118, Tryz.ntmps118
 go_wp2_with (refine Dp.wpList_box_row rfl 179 _ rfl (Dp.pinsCells i) rfl ?_)
 intro w1 r1 z1 k1
 go_wp2_with (refine Dp.wpList_alloc_row rfl 192 rfl _ zeroTable ?_)
 intro w2 r2 z2 k2
 have HT := Hid.mk_ (Dp.row_nil r2)
 go_wp2_with (refine Dp.wpList_store_in rfl 192 _ _ rfl (w.heap.size + 1) 0 rfl Dp.opTable rfl 192 [] _ [] HT.out rfl rfl sizeTable opTable_one ?_)
 intro w3 r3 z3 k3
 have hr1 := (r1.keep k2 (fun e => e)).keep k3 (show ¬ w.heap.size = w.heap.size + 1 by omega)
 obtain ⟨i0, _, _, _, _⟩ := hr1.pins
 have HK4 : Hid (Dp.Keeps (fun _ => False) w w3) := (k1.trans k2).next k3 (fun k hk e => by omega)
 clear r1 r2 r3 k1 k2 k3 z1 z2 z3
 go_wp2
 go_ret
 exact ⟨rfl, HK4.out⟩

set_option maxRecDepth 100000 in
set_option maxHeartbeats 1000000 in
theorem progPerform {σ : Type} (M : Dp.Memo σ) (F : World → Nat → Prop) (Inv Inv' : World → σ → Prop) (Bad : World → Prop) (g : List PanicEntry) (T : TypeId) (x : Value) (s : Dp.Cs) (i : Dp.Ins) (p : Nat) (w : World) (m : σ) (hs : s.Ok) (hi : i.Ok) (hM : Dp.MemOk Tryz.prog p T x M F Inv Inv' Bad g) (hp : Dp.Row w p 137 (Dp.coreCells s (.iface T x))) (hI : Inv w m) :
  Calls Tryz.prog 118 #[.pointer (some ⟨p, 0, none⟩), .agg (Dp.pinsCells i).toArray] w fun e w' => Dp.after (Dp.perform M s m i) (e = .panicked g ∧ Bad w') fun r => e = .returned (.int .i64 r.2.2) ∧ Dp.Row w' p 137 (Dp.coreCells r.1 (.iface T x)) ∧ Inv' w' r.2.1 := by
 have hop := hi.op
 by_cases h20 : 20 ≤ i.op
 ·refine (progPerformNone i hi p w h20).mono ?_
  rintro e w' ⟨rfl, hk⟩
  rw [Dp.perform_still M s m i (by omega) (by omega) (by omega), Dp.still_none s i h20]
  exact ⟨rfl, hp.keep hk (fun e => e), hM.le (hM.keep hI (hk.mono (fun _ _ e => e.elim))).1⟩
 have h20' : i.op < 20 := by omega
 have hcases : i.op = 0 ∨ i.op = 1 ∨ i.op = 2 ∨ i.op = 3 ∨ i.op = 4 ∨ i.op = 5 ∨ i.op = 6 ∨ i.op = 7 ∨ i.op = 8 ∨ i.op = 9 ∨ i.op = 10 ∨ i.op = 11 ∨ i.op = 12 ∨ i.op = 13 ∨ i.op = 14 ∨ i.op = 15 ∨ i.op = 16 ∨ i.op = 17 ∨ i.op = 18 ∨ i.op = 19 := by omega
 rcases hcases with h | h | h | h | h | h | h | h | h | h | h | h | h | h | h | h | h | h | h | h
 ·refine progPerformBy i hi p w 128 h20' (by rw [h]; rfl) callF_pHalt _ (fun w2 k2 => ?_)
  have hp2 := hp.keep k2 (fun e => e)
  have hI2 := (hM.keep hI (k2.mono (fun _ _ e => e.elim))).1
  refine (progHalt s (.iface T x) i p w2 hs hi hp2).mono ?_
  rintro e w' ⟨rfl, hr, hk⟩
  rw [Dp.perform_still M s m i (by omega) (by omega) (by omega), Dp.still_halt s i hs.len hi h]
  exact ⟨rfl, hr, hM.le (hM.keep hI2 hk).1⟩
 ·refine progPerformBy i hi p w 129 h20' (by rw [h]; rfl) callF_pAdd _ (fun w2 k2 => ?_)
  have hp2 := hp.keep k2 (fun e => e)
  have hI2 := (hM.keep hI (k2.mono (fun _ _ e => e.elim))).1
  refine (progAdd s (.iface T x) i p w2 hs hi hp2).mono ?_
  rintro e w' ⟨rfl, hr, hk⟩
  rw [Dp.perform_still M s m i (by omega) (by omega) (by omega), Dp.still_alu s i (Dp.wrap (s.reg i.b + s.reg i.c)) (by omega) (by omega) (by omega) (by simp [Dp.aluOf, h])]
  exact ⟨rfl, hr, hM.le (hM.keep hI2 hk).1⟩
 ·refine progPerformBy i hi p w 130 h20' (by rw [h]; rfl) callF_pSub _ (fun w2 k2 => ?_)
  have hp2 := hp.keep k2 (fun e => e)
  have hI2 := (hM.keep hI (k2.mono (fun _ _ e => e.elim))).1
  refine (progSub s (.iface T x) i p w2 hs hi hp2).mono ?_
  rintro e w' ⟨rfl, hr, hk⟩
  rw [Dp.perform_still M s m i (by omega) (by omega) (by omega), Dp.still_alu s i (Dp.wrap (s.reg i.b - s.reg i.c)) (by omega) (by omega) (by omega) (by simp [Dp.aluOf, h])]
  exact ⟨rfl, hr, hM.le (hM.keep hI2 hk).1⟩
 ·refine progPerformBy i hi p w 131 h20' (by rw [h]; rfl) callF_pMul _ (fun w2 k2 => ?_)
  have hp2 := hp.keep k2 (fun e => e)
  have hI2 := (hM.keep hI (k2.mono (fun _ _ e => e.elim))).1
  refine (progMul s (.iface T x) i p w2 hs hi hp2).mono ?_
  rintro e w' ⟨rfl, hr, hk⟩
  rw [Dp.perform_still M s m i (by omega) (by omega) (by omega), Dp.still_alu s i (Dp.wrap (s.reg i.b * s.reg i.c)) (by omega) (by omega) (by omega) (by simp [Dp.aluOf, h])]
  exact ⟨rfl, hr, hM.le (hM.keep hI2 hk).1⟩
 ·refine progPerformBy i hi p w 132 h20' (by rw [h]; rfl) callF_pAnd _ (fun w2 k2 => ?_)
  have hp2 := hp.keep k2 (fun e => e)
  have hI2 := (hM.keep hI (k2.mono (fun _ _ e => e.elim))).1
  refine (progAnd s (.iface T x) i p w2 hs hi hp2).mono ?_
  rintro e w' ⟨rfl, hr, hk⟩
  rw [Dp.perform_still M s m i (by omega) (by omega) (by omega), Dp.still_alu s i (Dp.bits 4 (s.reg i.b) (s.reg i.c)) (by omega) (by omega) (by omega) (by simp [Dp.aluOf, h])]
  exact ⟨rfl, hr, hM.le (hM.keep hI2 hk).1⟩
 ·refine progPerformBy i hi p w 133 h20' (by rw [h]; rfl) callF_pOr _ (fun w2 k2 => ?_)
  have hp2 := hp.keep k2 (fun e => e)
  have hI2 := (hM.keep hI (k2.mono (fun _ _ e => e.elim))).1
  refine (progOr s (.iface T x) i p w2 hs hi hp2).mono ?_
  rintro e w' ⟨rfl, hr, hk⟩
  rw [Dp.perform_still M s m i (by omega) (by omega) (by omega), Dp.still_alu s i (Dp.bits 5 (s.reg i.b) (s.reg i.c)) (by omega) (by omega) (by omega) (by simp [Dp.aluOf, h])]
  exact ⟨rfl, hr, hM.le (hM.keep hI2 hk).1⟩
 ·refine progPerformBy i hi p w 134 h20' (by rw [h]; rfl) callF_pXor _ (fun w2 k2 => ?_)
  have hp2 := hp.keep k2 (fun e => e)
  have hI2 := (hM.keep hI (k2.mono (fun _ _ e => e.elim))).1
  refine (progXor s (.iface T x) i p w2 hs hi hp2).mono ?_
  rintro e w' ⟨rfl, hr, hk⟩
  rw [Dp.perform_still M s m i (by omega) (by omega) (by omega), Dp.still_alu s i (Dp.bits 6 (s.reg i.b) (s.reg i.c)) (by omega) (by omega) (by omega) (by simp [Dp.aluOf, h])]
  exact ⟨rfl, hr, hM.le (hM.keep hI2 hk).1⟩
 ·refine progPerformBy i hi p w 135 h20' (by rw [h]; rfl) callF_pShl _ (fun w2 k2 => ?_)
  have hp2 := hp.keep k2 (fun e => e)
  have hI2 := (hM.keep hI (k2.mono (fun _ _ e => e.elim))).1
  refine (progShl s (.iface T x) i p w2 hs hi hp2).mono ?_
  rintro e w' ⟨rfl, hr, hk⟩
  rw [Dp.perform_still M s m i (by omega) (by omega) (by omega), Dp.still_alu s i (Dp.shl (s.reg i.b) (s.reg i.c)) (by omega) (by omega) (by omega) (by simp [Dp.aluOf, h])]
  exact ⟨rfl, hr, hM.le (hM.keep hI2 hk).1⟩
 ·refine progPerformBy i hi p w 136 h20' (by rw [h]; rfl) callF_pShr _ (fun w2 k2 => ?_)
  have hp2 := hp.keep k2 (fun e => e)
  have hI2 := (hM.keep hI (k2.mono (fun _ _ e => e.elim))).1
  refine (progShr s (.iface T x) i p w2 hs hi hp2).mono ?_
  rintro e w' ⟨rfl, hr, hk⟩
  rw [Dp.perform_still M s m i (by omega) (by omega) (by omega), Dp.still_alu s i (Dp.shr (s.reg i.b) (s.reg i.c)) (by omega) (by omega) (by omega) (by simp [Dp.aluOf, h])]
  exact ⟨rfl, hr, hM.le (hM.keep hI2 hk).1⟩
 ·refine progPerformBy i hi p w 137 h20' (by rw [h]; rfl) callF_pLess _ (fun w2 k2 => ?_)
  have hp2 := hp.keep k2 (fun e => e)
  have hI2 := (hM.keep hI (k2.mono (fun _ _ e => e.elim))).1
  refine (progLess s (.iface T x) i p w2 hs hi hp2).mono ?_
  rintro e w' ⟨rfl, hr, hk⟩
  rw [Dp.perform_still M s m i (by omega) (by omega) (by omega), Dp.still_alu s i (Dp.one (decide (Dp.signed (s.reg i.b) < Dp.signed (s.reg i.c)))) (by omega) (by omega) (by omega) (by simp [Dp.aluOf, h])]
  exact ⟨rfl, hr, hM.le (hM.keep hI2 hk).1⟩
 ·refine progPerformBy i hi p w 138 h20' (by rw [h]; rfl) callF_pDiv _ (fun w2 k2 => ?_)
  have hp2 := hp.keep k2 (fun e => e)
  have hI2 := (hM.keep hI (k2.mono (fun _ _ e => e.elim))).1
  by_cases hz : s.reg i.c = 0
  ·refine (progDiv0 s (.iface T x) i p w2 hs hi hp2 hz).mono ?_
   rintro e w' ⟨rfl, hr, hk⟩
   rw [Dp.perform_still M s m i (by omega) (by omega) (by omega), Dp.still_div0 s i h hz]
   exact ⟨rfl, hr, hM.le (hM.keep hI2 hk).1⟩
  ·refine (progDiv s (.iface T x) i p w2 hs hi hp2 hz).mono ?_
   rintro e w' ⟨rfl, hr, hk⟩
   rw [Dp.perform_still M s m i (by omega) (by omega) (by omega), Dp.still_div s i h hz]
   exact ⟨rfl, hr, hM.le (hM.keep hI2 hk).1⟩
 ·refine progPerformBy i hi p w 139 h20' (by rw [h]; rfl) callF_pSet _ (fun w2 k2 => ?_)
  have hp2 := hp.keep k2 (fun e => e)
  have hI2 := (hM.keep hI (k2.mono (fun _ _ e => e.elim))).1
  refine (progSet s (.iface T x) i p w2 hs hi hp2).mono ?_
  rintro e w' ⟨rfl, hr, hk⟩
  rw [Dp.perform_still M s m i (by omega) (by omega) (by omega), Dp.still_alu s i (Dp.wrap (s.reg i.b + i.n)) (by omega) (by omega) (by omega) (by simp [Dp.aluOf, h])]
  exact ⟨rfl, hr, hM.le (hM.keep hI2 hk).1⟩
 ·refine progPerformBy i hi p w 140 h20' (by rw [h]; rfl) callF_pHigh _ (fun w2 k2 => ?_)
  have hp2 := hp.keep k2 (fun e => e)
  have hI2 := (hM.keep hI (k2.mono (fun _ _ e => e.elim))).1
  refine (progHigh s (.iface T x) i p w2 hs hi hp2).mono ?_
  rintro e w' ⟨rfl, hr, hk⟩
  rw [Dp.perform_still M s m i (by omega) (by omega) (by omega), Dp.still_alu s i (Dp.wrap (i.n * 32768)) (by omega) (by omega) (by omega) (by simp [Dp.aluOf, h])]
  exact ⟨rfl, hr, hM.le (hM.keep hI2 hk).1⟩
 ·refine progPerformBy i hi p w 141 h20' (by rw [h]; rfl) callF_pLoad _ (fun w2 k2 => ?_)
  have hp2 := hp.keep k2 (fun e => e)
  have hI2 := (hM.keep hI (k2.mono (fun _ _ e => e.elim))).1
  have e0 : Dp.perform M s m i = match M.load m (Dp.wrap (s.reg i.b + i.n)) with | none => none | some r => if r.2.2 ≠ 0 then some (s, r.1, r.2.2) else some (Dp.putted s i r.2.1, r.1, 0) := by
   unfold Dp.perform; rw [if_pos h]; rfl
  refine (progLoad M F Inv Inv' Bad g T x s i p w2 m hs hi hM hp2 hI2).mono ?_
  intro e w' h2
  rw [e0]
  cases hl : M.load m (Dp.wrap (s.reg i.b + i.n)) with
  | none => rw [hl] at h2; exact h2
  | some r =>
   rw [hl, Dp.after_some] at h2
   obtain ⟨he, hr, hI3⟩ := h2
   by_cases hz : r.2.2 = 0
   ·simp only [hz, ne_eq, not_true_eq_false, if_false] at hr he ⊢
    exact ⟨he, hr, hI3⟩
   ·simp only [hz, ne_eq, not_false_eq_true, if_true] at hr ⊢
    exact ⟨he, hr, hI3⟩
 ·refine progPerformBy i hi p w 142 h20' (by rw [h]; rfl) callF_pStore _ (fun w2 k2 => ?_)
  have hp2 := hp.keep k2 (fun e => e)
  have hI2 := (hM.keep hI (k2.mono (fun _ _ e => e.elim))).1
  have e0 : Dp.perform M s m i = match M.store m (Dp.wrap (s.reg i.b + i.n)) (s.reg i.a) with | none => none | some r => if r.2 ≠ 0 then some (s, r.1, r.2) else some ({ s with pc := Dp.wrap (s.pc + 1) }, r.1, 0) := by
   unfold Dp.perform; rw [if_neg (by omega), if_pos h]; rfl
  refine (progStore M F Inv Inv' Bad g T x s i p w2 m hs hi hM hp2 hI2).mono ?_
  intro e w' h2
  rw [e0]
  cases hl : M.store m (Dp.wrap (s.reg i.b + i.n)) (s.reg i.a) with
  | none => rw [hl] at h2; exact h2
  | some r =>
   rw [hl, Dp.after_some] at h2
   obtain ⟨he, hr, hI3⟩ := h2
   by_cases hz : r.2 = 0
   ·simp only [hz, ne_eq, not_true_eq_false, if_false] at hr he ⊢
    exact ⟨he, hr, hI3⟩
   ·simp only [hz, ne_eq, not_false_eq_true, if_true] at hr ⊢
    exact ⟨he, hr, hI3⟩
 ·refine progPerformBy i hi p w 143 h20' (by rw [h]; rfl) callF_pSame _ (fun w2 k2 => ?_)
  have hp2 := hp.keep k2 (fun e => e)
  have hI2 := (hM.keep hI (k2.mono (fun _ _ e => e.elim))).1
  refine (progSame s (.iface T x) i p w2 hs hi hp2).mono ?_
  rintro e w' ⟨rfl, hr, hk⟩
  rw [Dp.perform_still M s m i (by omega) (by omega) (by omega), Dp.still_same s i hs.len hi h]
  exact ⟨rfl, hr, hM.le (hM.keep hI2 hk).1⟩
 ·refine progPerformBy i hi p w 144 h20' (by rw [h]; rfl) callF_pOther _ (fun w2 k2 => ?_)
  have hp2 := hp.keep k2 (fun e => e)
  have hI2 := (hM.keep hI (k2.mono (fun _ _ e => e.elim))).1
  refine (progOther s (.iface T x) i p w2 hs hi hp2).mono ?_
  rintro e w' ⟨rfl, hr, hk⟩
  rw [Dp.perform_still M s m i (by omega) (by omega) (by omega), Dp.still_other s i hs.len hi h]
  exact ⟨rfl, hr, hM.le (hM.keep hI2 hk).1⟩
 ·refine progPerformBy i hi p w 145 h20' (by rw [h]; rfl) callF_pUnder _ (fun w2 k2 => ?_)
  have hp2 := hp.keep k2 (fun e => e)
  have hI2 := (hM.keep hI (k2.mono (fun _ _ e => e.elim))).1
  refine (progUnder s (.iface T x) i p w2 hs hi hp2).mono ?_
  rintro e w' ⟨rfl, hr, hk⟩
  rw [Dp.perform_still M s m i (by omega) (by omega) (by omega), Dp.still_under s i hs.len hi h]
  exact ⟨rfl, hr, hM.le (hM.keep hI2 hk).1⟩
 ·refine progPerformBy i hi p w 146 h20' (by rw [h]; rfl) callF_pCall _ (fun w2 k2 => ?_)
  have hp2 := hp.keep k2 (fun e => e)
  have hI2 := (hM.keep hI (k2.mono (fun _ _ e => e.elim))).1
  refine (progCall s (.iface T x) i p w2 hs hi hp2).mono ?_
  rintro e w' ⟨rfl, hr, hk⟩
  rw [Dp.perform_still M s m i (by omega) (by omega) (by omega), Dp.still_call s i h]
  exact ⟨rfl, hr, hM.le (hM.keep hI2 hk).1⟩
 ·refine progPerformBy i hi p w 147 h20' (by rw [h]; rfl) callF_pAsk _ (fun w2 k2 => ?_)
  have hp2 := hp.keep k2 (fun e => e)
  have hI2 := (hM.keep hI (k2.mono (fun _ _ e => e.elim))).1
  have e0 : Dp.perform M s m i = match M.source m (s.reg i.b) with | none => none | some r => if r.2.2 ≠ 0 then some (s, r.1, r.2.2) else some (Dp.putted s i (Dp.told r.2.1 (s.reg i.c)), r.1, 0) := by
   unfold Dp.perform; rw [if_neg (by omega), if_neg (by omega), if_pos h]; rfl
  refine (progAsk M F Inv Inv' Bad g T x s i p w2 m hs hi hM hp2 hI2).mono ?_
  intro e w' h2
  rw [e0]
  cases hl : M.source m (s.reg i.b) with
  | none => rw [hl] at h2; exact h2
  | some r =>
   rw [hl, Dp.after_some] at h2
   obtain ⟨he, hr, hI3⟩ := h2
   by_cases hz : r.2.2 = 0
   ·simp only [hz, ne_eq, not_true_eq_false, if_false] at hr he ⊢
    exact ⟨he, hr, hI3⟩
   ·simp only [hz, ne_eq, not_false_eq_true, if_true] at hr ⊢
    exact ⟨he, hr, hI3⟩

end Go.Proofs.YtdipojfngdceoaaGreatDoor
