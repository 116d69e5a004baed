/- Steps on the way: ProgMem. -/
import Derived.Test.YtdipojfngdceoabGreatDoorPack12
import Derived.Test.YtdipojfngdceoabGreatDoorPack32
import Derived.Test.YtdipojfngdceoabGreatDoorPack69
import Derived.Test.YtdipojfngdceoabGreatDoorPack73
import Derived.Test.YtdipojfngdceoabGreatDoorProg
import Derived.WalkKit
import Derived.WalkSpells
import Derived.WalkLawsBesides
/- The program's core: the instructions that reach memory, whatever memory it is. -/
namespace Go.Proofs.YtdipojfngdceoabGreatDoor
open Go.RowKit

namespace Dp
theorem Row.coreMem {w : World} {g : Nat} {e : TypeId} {s : Cs} {mem : Value} (h : Row w g e (coreCells s mem)) (hl : s.regs.length = 8) : w.cell? ⟨g, 12, none⟩ = some mem := by
  rw [h.cell]; unfold coreCells
  rw [List.getElem?_append_right (by simp [wordCells]; omega)]
  simp [wordCells, hl]
end Dp

set_option maxRecDepth 100000 in
set_option maxHeartbeats 1000000 in
theorem progLoad {σ : Type} (M : Dp.Memo σ) (F : World → Nat → Prop) (Inv Inv' : World → σ → Prop) (Bad : World → Prop) (g : List PanicEntry) (T : TypeId) (x : Value) (s : Dp.Cs) (i : Dp.Ins) (p : Nat) (w : World) (m : σ) (hs : s.Ok) (hi : i.Ok) (hM : Dp.MemOk Tryz.prog p T x M F Inv Inv' Bad g) (hp : Dp.Row w p 109 (Dp.coreCells s (.iface T x))) (hI : Inv w m) :
    Calls Tryz.prog 128 #[.pointer (some ⟨p, 0, none⟩), .agg (Dp.pinsCells i).toArray] w fun e w' => Dp.after (M.load m (Dp.wrap (s.reg i.b + i.n))) (e = .panicked g ∧ Bad w') fun r => e = .returned (.int .i64 r.2.2) ∧ Dp.Row w' p 109 (Dp.coreCells (if r.2.2 ≠ 0 then s else Dp.putted s i r.2.1) (.iface T x)) ∧ Inv' w' r.1 := by
  have HV : Hid (IntKind.u32.wrap (s.reg i.b + Dp.wrap i.n) = Dp.wrap (s.reg i.b + i.n)) := by unfold Hid; rw [IntKind.wrap_u32]; unfold Dp.wrap; omega
  have hlt := hp.lt
  go_enter Tryz.func128, Tryz.ntmps128
  go_wp2_with (refine Dp.wpList_box_row rfl 165 _ rfl (Dp.pinsCells i) rfl ?_)
  intro w1 r1 z1 k1
  have hp1 := hp.keep k1 (fun e => e)
  have hkk := hM.keep hI (Dp.Keeps.mono (T := fun k => k = p) k1 (fun _ _ e => e.elim)).drew
  have HI1 := Hid.mk_ hkk.1
  have HF : Hid (¬ F w1.drew w.heap.size) := fun h => by have := (hM.foot hI (hkk.2 _ h)).1; omega
  have HP : Hid (¬ F w1.drew p) := fun h => (hM.foot hI (hkk.2 _ h)).2 rfl
  clear hkk
  have q0 : ∀ wx, Dp.Keeps (fun _ => False) w1 wx → wx.cell? ⟨w.heap.size, 0, none⟩ = some (.int .u32 i.op) := fun wx kx => ((r1.keep kx (fun e => e)).pins).1
  have q1 : ∀ wx, Dp.Keeps (fun _ => False) w1 wx → wx.cell? ⟨w.heap.size, 1, none⟩ = some (.int .u32 i.a) := fun wx kx => ((r1.keep kx (fun e => e)).pins).2.1
  have q2 : ∀ wx, Dp.Keeps (fun _ => False) w1 wx → wx.cell? ⟨w.heap.size, 2, none⟩ = some (.int .u32 i.b) := fun wx kx => ((r1.keep kx (fun e => e)).pins).2.2.1
  have q3 : ∀ wx, Dp.Keeps (fun _ => False) w1 wx → wx.cell? ⟨w.heap.size, 3, none⟩ = some (.int .u32 i.c) := fun wx kx => ((r1.keep kx (fun e => e)).pins).2.2.2.1
  have q4 : ∀ wx, Dp.Keeps (fun _ => False) w1 wx → wx.cell? ⟨w.heap.size, 4, none⟩ = some (.int .u32 (Dp.wrap i.n)) := fun wx kx => ((r1.keep kx (fun e => e)).pins).2.2.2.2
  have qa : ∀ wx, Dp.Keeps (fun _ => False) w1 wx → wx.cell? ⟨p, 4 + i.a.toNat, none⟩ = some (.int .u32 (s.reg i.a)) := fun wx kx => (hp1.keep kx (fun e => e)).coreReg hs.len i.a hi.a
  have qb : ∀ wx, Dp.Keeps (fun _ => False) w1 wx → wx.cell? ⟨p, 4 + i.b.toNat, none⟩ = some (.int .u32 (s.reg i.b)) := fun wx kx => (hp1.keep kx (fun e => e)).coreReg hs.len i.b hi.b
  have qm : ∀ wx, Dp.Keeps (fun _ => False) w1 wx → wx.cell? ⟨p, 12, none⟩ = some (.iface T x) := fun wx kx => (hp1.keep kx (fun e => e)).coreMem hs.len
  have hia := hi.a
  have hib := hi.b
  have ha := hs.reg i.a
  have hb := hs.reg i.b
  have hnw := Dp.wrap_word i.n
  unfold Dp.isWord at ha hb hnw
  have hS0 : Dp.Keeps (fun _ => False) w1 w1.drew := (Dp.Keeps.refl _ _).drew
  go_wp2
  refine Dp.wp_region_L (fun wx => Dp.Keeps (fun _ => False) w1 wx) 17 mixedP ?_
  refine' Dp.wpAnyL_take 0 rfl (by kernel_rfl) (fun _ _ _ h => h) (by rfl) ?hy0 hS0 ?rest0
  case hy0 => intro wx hSx; go_simp; try with_reducible rfl
  simp only [Act.put, List.getElem_toArray, List.getElem_cons_zero, List.setIfInBounds_toArray, List.set_cons_zero, List.set_cons_succ]
  refine' Dp.wpAnyL_take 1 rfl (by kernel_rfl) (fun _ _ _ h => h) (by rfl) ?hy1 hS0 ?rest1
  case hy1 => intro wx hSx; go_simp; try with_reducible rfl
  simp only [Act.put, List.getElem_toArray, List.getElem_cons_zero, List.getElem_cons_succ, List.setIfInBounds_toArray, List.set_cons_zero, List.set_cons_succ]
  refine' Dp.wpAnyL_take 2 rfl (by kernel_rfl) (fun _ _ _ h => h) (by rfl) ?hy2 hS0 ?rest2
  case hy2 => intro wx hSx; go_simp; try with_reducible rfl
  simp only [Act.put, List.getElem_toArray, List.getElem_cons_zero, List.getElem_cons_succ, List.setIfInBounds_toArray, List.set_cons_zero, List.set_cons_succ]
  refine' Dp.wpAnyL_take 3 rfl (by kernel_rfl) (fun _ _ _ h => h) (by rfl) ?hy3 hS0 ?rest3
  case hy3 => intro wx hSx; go_simp; try with_reducible rfl
  simp only [Act.put, List.getElem_toArray, List.getElem_cons_zero, List.getElem_cons_succ, List.setIfInBounds_toArray, List.set_cons_zero, List.set_cons_succ]
  refine' Dp.wpAnyL_take 4 rfl (by kernel_rfl) (fun _ _ _ h => h) (by rfl) ?hy4 hS0 ?rest4
  case hy4 => intro wx hSx; go_simp; try with_reducible rfl
  simp only [Act.put, List.getElem_toArray, List.getElem_cons_zero, List.getElem_cons_succ, List.setIfInBounds_toArray, List.set_cons_zero, List.set_cons_succ]
  refine' Dp.wpAnyL_take 5 rfl (by kernel_rfl) (fun _ _ _ h => h) (by rfl) ?hy5 hS0 ?rest5
  case hy5 => intro wx hSx; go_simp; try with_reducible rfl
  simp only [Act.put, List.getElem_toArray, List.getElem_cons_zero, List.getElem_cons_succ, List.setIfInBounds_toArray, List.set_cons_zero, List.set_cons_succ]
  refine' Dp.wpAnyL_take 6 rfl (by kernel_rfl) (fun _ _ _ h => h) (by rfl) ?hy6 hS0 ?rest6
  case hy6 => intro wx hSx; go_simp; try with_reducible rfl
  simp only [Act.put, List.getElem_toArray, List.getElem_cons_zero, List.getElem_cons_succ, List.setIfInBounds_toArray, List.set_cons_zero, List.set_cons_succ]
  refine' Dp.wpAnyL_take 7 rfl (by kernel_rfl) (fun _ _ _ h => h) (by rfl) ?hy7 hS0 ?rest7
  case hy7 => intro wx hSx; go_simp; try with_reducible rfl
  simp only [Act.put, List.getElem_toArray, List.getElem_cons_zero, List.getElem_cons_succ, List.setIfInBounds_toArray, List.set_cons_zero, List.set_cons_succ]
  refine' Dp.wpAnyL_take 8 rfl (by kernel_rfl) (fun _ _ _ h => h) (by rfl) ?hy8 hS0 ?rest8
  case hy8 => intro wx hSx; go_simp; try with_reducible rfl
  simp only [Act.put, List.getElem_toArray, List.getElem_cons_zero, List.getElem_cons_succ, List.setIfInBounds_toArray, List.set_cons_zero, List.set_cons_succ]
  refine' Dp.wpAnyL_take 9 rfl (by kernel_rfl) (fun _ _ _ h => h) (by rfl) ?hy9 hS0 ?rest9
  case hy9 => intro wx hSx; go_simp; try with_reducible rfl
  simp only [Act.put, List.getElem_toArray, List.getElem_cons_zero, List.getElem_cons_succ, List.setIfInBounds_toArray, List.set_cons_zero, List.set_cons_succ]
  refine' Dp.wpAnyL_take 10 rfl (by kernel_rfl) (fun _ _ _ h => h) (by rfl) ?hy10 hS0 ?rest10
  case hy10 => intro wx hSx; go_simp; try with_reducible rfl
  simp only [Act.put, List.getElem_toArray, List.getElem_cons_zero, List.getElem_cons_succ, List.setIfInBounds_toArray, List.set_cons_zero, List.set_cons_succ]
  refine' Dp.wpAnyL_take 11 rfl (by kernel_rfl) (fun _ _ _ h => h) (by rfl) ?hy11 hS0 ?rest11
  case hy11 => intro wx hSx; go_simp; try with_reducible rfl
  simp only [Act.put, List.getElem_toArray, List.getElem_cons_zero, List.getElem_cons_succ, List.setIfInBounds_toArray, List.set_cons_zero, List.set_cons_succ]
  refine' Dp.wpAnyL_take 12 rfl (by kernel_rfl) (fun _ _ _ h => h) (by rfl) ?hy12 hS0 ?rest12
  case hy12 => intro wx hSx; go_simp; try with_reducible rfl
  simp only [Act.put, List.getElem_toArray, List.getElem_cons_zero, List.getElem_cons_succ, List.setIfInBounds_toArray, List.set_cons_zero, List.set_cons_succ]
  refine' Dp.wpAnyL_take 13 rfl (by kernel_rfl) (fun _ _ _ h => h) (by rfl) ?hy13 hS0 ?rest13
  case hy13 => intro wx hSx; go_simp; try with_reducible rfl
  simp only [Act.put, List.getElem_toArray, List.getElem_cons_zero, List.getElem_cons_succ, List.setIfInBounds_toArray, List.set_cons_zero, List.set_cons_succ]
  refine' Dp.wpAnyL_take 14 rfl (by kernel_rfl) (fun _ _ _ h => h) (by rfl) ?hy14 hS0 ?rest14
  case hy14 => intro wx hSx; go_simp; try with_reducible rfl
  simp only [Act.put, List.getElem_toArray, List.getElem_cons_zero, List.getElem_cons_succ, List.setIfInBounds_toArray, List.set_cons_zero, List.set_cons_succ]
  refine' Dp.wpAnyL_take 15 rfl (by kernel_rfl) (fun _ _ _ h => h) (by rfl) ?hy15 hS0 ?rest15
  case hy15 => intro wx hSx; go_simp; try with_reducible rfl
  simp only [Act.put, List.getElem_toArray, List.getElem_cons_zero, List.getElem_cons_succ, List.setIfInBounds_toArray, List.set_cons_zero, List.set_cons_succ]
  refine' Dp.wpAnyL_take 16 rfl (by kernel_rfl) (fun _ _ _ h => h) (by rfl) ?hy16 hS0 ?rest16
  case hy16 => intro wx hSx; go_simp; try with_reducible rfl
  simp only [Act.put, List.getElem_toArray, List.getElem_cons_zero, List.getElem_cons_succ, List.setIfInBounds_toArray, List.set_cons_zero, List.set_cons_succ]
  rw [HV.out]
  refine Dp.wpAnyL_one 17 rfl (by kernel_rfl) (by rfl) (fun K hK => ?_)
  obtain ⟨f, args, hm, hc⟩ := hM.load w1.drew m (Dp.wrap (s.reg i.b + i.n)) (Dp.wrap_word _) HI1.out
  refine Dp.wp_invoke _ _ "Load" rfl rfl T x rfl #[.int .u32 (Dp.wrap (s.reg i.b + i.n))] (by simp only [List.map_toArray, List.map_cons, List.map_nil]; rfl) f args hm (hc.mono ?_)
  clear hm hc f args
  intro e w2 h2
  cases hl : M.load m (Dp.wrap (s.reg i.b + i.n)) with
  | none =>
    rw [hl, Dp.after_none] at h2
    obtain ⟨rfl, hbad⟩ := h2
    exact ⟨rfl, by rw [hl]; exact ⟨rfl, hbad⟩⟩
  | some r =>
    rw [hl, Dp.after_some] at h2
    obtain ⟨rfl, hw, he, hI2, hk2⟩ := h2
    have HL := Hid.mk_ hl
    have hp2 := hp1.drew.keep hk2 HP.out
    have r2 := r1.drew.keep hk2 HF.out
    refine hK _ _ ⟨fun h => absurd h (Nat.lt_irrefl _), ?_⟩
    clear hK K
    simp only [Act.put, List.getElem_toArray, List.getElem_cons_zero, List.getElem_cons_succ, List.setIfInBounds_toArray, List.set_cons_zero, List.set_cons_succ]
    refine Dp.wpAnyL_rest (by kernel_rfl) ?_
    refine' Dp.wpAny_pure 18 rfl (by kernel_rfl) (fun _ _ _ h => h) (.inl ⟨by rfl, ?hp18⟩) ?pest18
    case hp18 => intro wx; go_simp; try with_reducible rfl
    simp only [Act.put, List.getElem_toArray, List.getElem_cons_zero, List.getElem_cons_succ, List.setIfInBounds_toArray, List.set_cons_zero, List.set_cons_succ]
    refine' Dp.wpAny_pure 19 rfl (by kernel_rfl) (fun _ _ _ h => h) (.inl ⟨by rfl, ?hp19⟩) ?pest19
    case hp19 => intro wx; go_simp; try with_reducible rfl
    simp only [Act.put, List.getElem_toArray, List.getElem_cons_zero, List.getElem_cons_succ, List.setIfInBounds_toArray, List.set_cons_zero, List.set_cons_succ]
    refine' Dp.wpAny_pure 20 rfl (by kernel_rfl) (fun _ _ _ h => h) (.inl ⟨by rfl, ?hp20⟩) ?pest20
    case hp20 => intro wx; go_simp; try with_reducible rfl
    simp only [Act.put, List.getElem_toArray, List.getElem_cons_zero, List.getElem_cons_succ, List.setIfInBounds_toArray, List.set_cons_zero, List.set_cons_succ]
    refine' Dp.wpAny_pure 21 rfl (by kernel_rfl) (fun _ _ _ h => h) (.inl ⟨by rfl, ?hp21⟩) ?pest21
    case hp21 => intro wx; go_simp; try with_reducible rfl
    simp only [Act.put, List.getElem_toArray, List.getElem_cons_zero, List.getElem_cons_succ, List.setIfInBounds_toArray, List.set_cons_zero, List.set_cons_succ]
    refine' Dp.wpAny_pure 22 rfl (by kernel_rfl) (fun _ _ _ h => h) (.inl ⟨by rfl, ?hp22⟩) ?pest22
    case hp22 => intro wx; go_simp; try with_reducible rfl
    simp only [Act.put, List.getElem_toArray, List.getElem_cons_zero, List.getElem_cons_succ, List.setIfInBounds_toArray, List.set_cons_zero, List.set_cons_succ]
    refine wpAny_done (by kernel_rfl) ?_ _
    obtain ⟨i0, i1, i2, i3, i4⟩ := r2.pins
    clear q0 q1 q2 q3 q4 qa qb qm hl
    have hr2 := hw
    unfold Dp.isWord at hr2
    by_cases hz : r.2.2 = 0
    · go_wp2_with fail
      refine (progPut s (.iface T x) i _ p _ hs hi hp2).mono ?_
      rintro e w3 ⟨rfl, hr3, hk3⟩
      go_wp2
      go_ret
      rw [HL.out, Dp.after_some]
      exact ⟨by rw [hz]; rfl, by simp only [hz, ne_eq, not_true_eq_false, if_false]; exact hr3, hM.keep' hI2 hk3⟩
    · go_wp2
      go_ret
      rw [HL.out, Dp.after_some]
      exact ⟨rfl, by simp only [hz, ne_eq, not_false_eq_true, if_true]; exact hp2, hI2⟩

set_option maxRecDepth 100000 in
set_option maxHeartbeats 1000000 in
theorem progStore {σ : Type} (M : Dp.Memo σ) (F : World → Nat → Prop) (Inv Inv' : World → σ → Prop) (Bad : World → Prop) (g : List PanicEntry) (T : TypeId) (x : Value) (s : Dp.Cs) (i : Dp.Ins) (p : Nat) (w : World) (m : σ) (hs : s.Ok) (hi : i.Ok) (hM : Dp.MemOk Tryz.prog p T x M F Inv Inv' Bad g) (hp : Dp.Row w p 109 (Dp.coreCells s (.iface T x))) (hI : Inv w m) :
    Calls Tryz.prog 129 #[.pointer (some ⟨p, 0, none⟩), .agg (Dp.pinsCells i).toArray] w fun e w' => Dp.after (M.store m (Dp.wrap (s.reg i.b + i.n)) (s.reg i.a)) (e = .panicked g ∧ Bad w') fun r => e = .returned (.int .i64 r.2) ∧ Dp.Row w' p 109 (Dp.coreCells (if r.2 ≠ 0 then s else { s with pc := Dp.wrap (s.pc + 1) }) (.iface T x)) ∧ Inv' w' r.1 := by
  have HV : Hid (IntKind.u32.wrap (s.reg i.b + Dp.wrap i.n) = Dp.wrap (s.reg i.b + i.n)) := by unfold Hid; rw [IntKind.wrap_u32]; unfold Dp.wrap; omega
  have hpc := hs.pc
  unfold Dp.isWord at hpc
  have hlt := hp.lt
  go_enter Tryz.func129, Tryz.ntmps129
  go_wp2_with (refine Dp.wpList_box_row rfl 165 _ rfl (Dp.pinsCells i) rfl ?_)
  intro w1 r1 z1 k1
  have hp1 := hp.keep k1 (fun e => e)
  have hkk := hM.keep hI (Dp.Keeps.mono (T := fun k => k = p) k1 (fun _ _ e => e.elim)).drew
  have HI1 := Hid.mk_ hkk.1
  have HF : Hid (¬ F w1.drew w.heap.size) := fun h => by have := (hM.foot hI (hkk.2 _ h)).1; omega
  have HP : Hid (¬ F w1.drew p) := fun h => (hM.foot hI (hkk.2 _ h)).2 rfl
  clear hkk
  have q0 : ∀ wx, Dp.Keeps (fun _ => False) w1 wx → wx.cell? ⟨w.heap.size, 0, none⟩ = some (.int .u32 i.op) := fun wx kx => ((r1.keep kx (fun e => e)).pins).1
  have q1 : ∀ wx, Dp.Keeps (fun _ => False) w1 wx → wx.cell? ⟨w.heap.size, 1, none⟩ = some (.int .u32 i.a) := fun wx kx => ((r1.keep kx (fun e => e)).pins).2.1
  have q2 : ∀ wx, Dp.Keeps (fun _ => False) w1 wx → wx.cell? ⟨w.heap.size, 2, none⟩ = some (.int .u32 i.b) := fun wx kx => ((r1.keep kx (fun e => e)).pins).2.2.1
  have q3 : ∀ wx, Dp.Keeps (fun _ => False) w1 wx → wx.cell? ⟨w.heap.size, 3, none⟩ = some (.int .u32 i.c) := fun wx kx => ((r1.keep kx (fun e => e)).pins).2.2.2.1
  have q4 : ∀ wx, Dp.Keeps (fun _ => False) w1 wx → wx.cell? ⟨w.heap.size, 4, none⟩ = some (.int .u32 (Dp.wrap i.n)) := fun wx kx => ((r1.keep kx (fun e => e)).pins).2.2.2.2
  have qa : ∀ wx, Dp.Keeps (fun _ => False) w1 wx → wx.cell? ⟨p, 4 + i.a.toNat, none⟩ = some (.int .u32 (s.reg i.a)) := fun wx kx => (hp1.keep kx (fun e => e)).coreReg hs.len i.a hi.a
  have qb : ∀ wx, Dp.Keeps (fun _ => False) w1 wx → wx.cell? ⟨p, 4 + i.b.toNat, none⟩ = some (.int .u32 (s.reg i.b)) := fun wx kx => (hp1.keep kx (fun e => e)).coreReg hs.len i.b hi.b
  have qm : ∀ wx, Dp.Keeps (fun _ => False) w1 wx → wx.cell? ⟨p, 12, none⟩ = some (.iface T x) := fun wx kx => (hp1.keep kx (fun e => e)).coreMem hs.len
  have hia := hi.a
  have hib := hi.b
  have ha := hs.reg i.a
  have hb := hs.reg i.b
  have hnw := Dp.wrap_word i.n
  unfold Dp.isWord at ha hb hnw
  have hS0 : Dp.Keeps (fun _ => False) w1 w1.drew := (Dp.Keeps.refl _ _).drew
  go_wp2
  refine Dp.wp_region_L (fun wx => Dp.Keeps (fun _ => False) w1 wx) 25 mixedP ?_
  refine' Dp.wpAnyL_take 0 rfl (by kernel_rfl) (fun _ _ _ h => h) (by rfl) ?hy0 hS0 ?rest0
  case hy0 => intro wx hSx; go_simp; try with_reducible rfl
  simp only [Act.put, List.getElem_toArray, List.getElem_cons_zero, List.setIfInBounds_toArray, List.set_cons_zero, List.set_cons_succ]
  refine' Dp.wpAnyL_take 1 rfl (by kernel_rfl) (fun _ _ _ h => h) (by rfl) ?hy1 hS0 ?rest1
  case hy1 => intro wx hSx; go_simp; try with_reducible rfl
  simp only [Act.put, List.getElem_toArray, List.getElem_cons_zero, List.getElem_cons_succ, List.setIfInBounds_toArray, List.set_cons_zero, List.set_cons_succ]
  refine' Dp.wpAnyL_take 2 rfl (by kernel_rfl) (fun _ _ _ h => h) (by rfl) ?hy2 hS0 ?rest2
  case hy2 => intro wx hSx; go_simp; try with_reducible rfl
  simp only [Act.put, List.getElem_toArray, List.getElem_cons_zero, List.getElem_cons_succ, List.setIfInBounds_toArray, List.set_cons_zero, List.set_cons_succ]
  refine' Dp.wpAnyL_take 3 rfl (by kernel_rfl) (fun _ _ _ h => h) (by rfl) ?hy3 hS0 ?rest3
  case hy3 => intro wx hSx; go_simp; try with_reducible rfl
  simp only [Act.put, List.getElem_toArray, List.getElem_cons_zero, List.getElem_cons_succ, List.setIfInBounds_toArray, List.set_cons_zero, List.set_cons_succ]
  refine' Dp.wpAnyL_take 4 rfl (by kernel_rfl) (fun _ _ _ h => h) (by rfl) ?hy4 hS0 ?rest4
  case hy4 => intro wx hSx; go_simp; try with_reducible rfl
  simp only [Act.put, List.getElem_toArray, List.getElem_cons_zero, List.getElem_cons_succ, List.setIfInBounds_toArray, List.set_cons_zero, List.set_cons_succ]
  refine' Dp.wpAnyL_take 5 rfl (by kernel_rfl) (fun _ _ _ h => h) (by rfl) ?hy5 hS0 ?rest5
  case hy5 => intro wx hSx; go_simp; try with_reducible rfl
  simp only [Act.put, List.getElem_toArray, List.getElem_cons_zero, List.getElem_cons_succ, List.setIfInBounds_toArray, List.set_cons_zero, List.set_cons_succ]
  refine' Dp.wpAnyL_take 6 rfl (by kernel_rfl) (fun _ _ _ h => h) (by rfl) ?hy6 hS0 ?rest6
  case hy6 => intro wx hSx; go_simp; try with_reducible rfl
  simp only [Act.put, List.getElem_toArray, List.getElem_cons_zero, List.getElem_cons_succ, List.setIfInBounds_toArray, List.set_cons_zero, List.set_cons_succ]
  refine' Dp.wpAnyL_take 7 rfl (by kernel_rfl) (fun _ _ _ h => h) (by rfl) ?hy7 hS0 ?rest7
  case hy7 => intro wx hSx; go_simp; try with_reducible rfl
  simp only [Act.put, List.getElem_toArray, List.getElem_cons_zero, List.getElem_cons_succ, List.setIfInBounds_toArray, List.set_cons_zero, List.set_cons_succ]
  refine' Dp.wpAnyL_take 8 rfl (by kernel_rfl) (fun _ _ _ h => h) (by rfl) ?hy8 hS0 ?rest8
  case hy8 => intro wx hSx; go_simp; try with_reducible rfl
  simp only [Act.put, List.getElem_toArray, List.getElem_cons_zero, List.getElem_cons_succ, List.setIfInBounds_toArray, List.set_cons_zero, List.set_cons_succ]
  refine' Dp.wpAnyL_take 9 rfl (by kernel_rfl) (fun _ _ _ h => h) (by rfl) ?hy9 hS0 ?rest9
  case hy9 => intro wx hSx; go_simp; try with_reducible rfl
  simp only [Act.put, List.getElem_toArray, List.getElem_cons_zero, List.getElem_cons_succ, List.setIfInBounds_toArray, List.set_cons_zero, List.set_cons_succ]
  refine' Dp.wpAnyL_take 10 rfl (by kernel_rfl) (fun _ _ _ h => h) (by rfl) ?hy10 hS0 ?rest10
  case hy10 => intro wx hSx; go_simp; try with_reducible rfl
  simp only [Act.put, List.getElem_toArray, List.getElem_cons_zero, List.getElem_cons_succ, List.setIfInBounds_toArray, List.set_cons_zero, List.set_cons_succ]
  refine' Dp.wpAnyL_take 11 rfl (by kernel_rfl) (fun _ _ _ h => h) (by rfl) ?hy11 hS0 ?rest11
  case hy11 => intro wx hSx; go_simp; try with_reducible rfl
  simp only [Act.put, List.getElem_toArray, List.getElem_cons_zero, List.getElem_cons_succ, List.setIfInBounds_toArray, List.set_cons_zero, List.set_cons_succ]
  refine' Dp.wpAnyL_take 12 rfl (by kernel_rfl) (fun _ _ _ h => h) (by rfl) ?hy12 hS0 ?rest12
  case hy12 => intro wx hSx; go_simp; try with_reducible rfl
  simp only [Act.put, List.getElem_toArray, List.getElem_cons_zero, List.getElem_cons_succ, List.setIfInBounds_toArray, List.set_cons_zero, List.set_cons_succ]
  refine' Dp.wpAnyL_take 13 rfl (by kernel_rfl) (fun _ _ _ h => h) (by rfl) ?hy13 hS0 ?rest13
  case hy13 => intro wx hSx; go_simp; try with_reducible rfl
  simp only [Act.put, List.getElem_toArray, List.getElem_cons_zero, List.getElem_cons_succ, List.setIfInBounds_toArray, List.set_cons_zero, List.set_cons_succ]
  refine' Dp.wpAnyL_take 14 rfl (by kernel_rfl) (fun _ _ _ h => h) (by rfl) ?hy14 hS0 ?rest14
  case hy14 => intro wx hSx; go_simp; try with_reducible rfl
  simp only [Act.put, List.getElem_toArray, List.getElem_cons_zero, List.getElem_cons_succ, List.setIfInBounds_toArray, List.set_cons_zero, List.set_cons_succ]
  refine' Dp.wpAnyL_take 15 rfl (by kernel_rfl) (fun _ _ _ h => h) (by rfl) ?hy15 hS0 ?rest15
  case hy15 => intro wx hSx; go_simp; try with_reducible rfl
  simp only [Act.put, List.getElem_toArray, List.getElem_cons_zero, List.getElem_cons_succ, List.setIfInBounds_toArray, List.set_cons_zero, List.set_cons_succ]
  refine' Dp.wpAnyL_take 16 rfl (by kernel_rfl) (fun _ _ _ h => h) (by rfl) ?hy16 hS0 ?rest16
  case hy16 => intro wx hSx; go_simp; try with_reducible rfl
  simp only [Act.put, List.getElem_toArray, List.getElem_cons_zero, List.getElem_cons_succ, List.setIfInBounds_toArray, List.set_cons_zero, List.set_cons_succ]
  refine' Dp.wpAnyL_take 17 rfl (by kernel_rfl) (fun _ _ _ h => h) (by rfl) ?hy17 hS0 ?rest17
  case hy17 => intro wx hSx; go_simp; try with_reducible rfl
  simp only [Act.put, List.getElem_toArray, List.getElem_cons_zero, List.getElem_cons_succ, List.setIfInBounds_toArray, List.set_cons_zero, List.set_cons_succ]
  refine' Dp.wpAnyL_take 18 rfl (by kernel_rfl) (fun _ _ _ h => h) (by rfl) ?hy18 hS0 ?rest18
  case hy18 => intro wx hSx; go_simp; try with_reducible rfl
  simp only [Act.put, List.getElem_toArray, List.getElem_cons_zero, List.getElem_cons_succ, List.setIfInBounds_toArray, List.set_cons_zero, List.set_cons_succ]
  refine' Dp.wpAnyL_take 19 rfl (by kernel_rfl) (fun _ _ _ h => h) (by rfl) ?hy19 hS0 ?rest19
  case hy19 => intro wx hSx; go_simp; try with_reducible rfl
  simp only [Act.put, List.getElem_toArray, List.getElem_cons_zero, List.getElem_cons_succ, List.setIfInBounds_toArray, List.set_cons_zero, List.set_cons_succ]
  refine' Dp.wpAnyL_take 20 rfl (by kernel_rfl) (fun _ _ _ h => h) (by rfl) ?hy20 hS0 ?rest20
  case hy20 => intro wx hSx; go_simp; try with_reducible rfl
  simp only [Act.put, List.getElem_toArray, List.getElem_cons_zero, List.getElem_cons_succ, List.setIfInBounds_toArray, List.set_cons_zero, List.set_cons_succ]
  refine' Dp.wpAnyL_take 21 rfl (by kernel_rfl) (fun _ _ _ h => h) (by rfl) ?hy21 hS0 ?rest21
  case hy21 => intro wx hSx; go_simp; try with_reducible rfl
  simp only [Act.put, List.getElem_toArray, List.getElem_cons_zero, List.getElem_cons_succ, List.setIfInBounds_toArray, List.set_cons_zero, List.set_cons_succ]
  refine' Dp.wpAnyL_take 22 rfl (by kernel_rfl) (fun _ _ _ h => h) (by rfl) ?hy22 hS0 ?rest22
  case hy22 => intro wx hSx; go_simp; try with_reducible rfl
  simp only [Act.put, List.getElem_toArray, List.getElem_cons_zero, List.getElem_cons_succ, List.setIfInBounds_toArray, List.set_cons_zero, List.set_cons_succ]
  refine' Dp.wpAnyL_take 23 rfl (by kernel_rfl) (fun _ _ _ h => h) (by rfl) ?hy23 hS0 ?rest23
  case hy23 => intro wx hSx; go_simp; try with_reducible rfl
  simp only [Act.put, List.getElem_toArray, List.getElem_cons_zero, List.getElem_cons_succ, List.setIfInBounds_toArray, List.set_cons_zero, List.set_cons_succ]
  refine' Dp.wpAnyL_take 24 rfl (by kernel_rfl) (fun _ _ _ h => h) (by rfl) ?hy24 hS0 ?rest24
  case hy24 => intro wx hSx; go_simp; try with_reducible rfl
  simp only [Act.put, List.getElem_toArray, List.getElem_cons_zero, List.getElem_cons_succ, List.setIfInBounds_toArray, List.set_cons_zero, List.set_cons_succ]
  rw [HV.out]
  refine Dp.wpAnyL_one 25 rfl (by kernel_rfl) (by rfl) (fun K hK => ?_)
  obtain ⟨f, args, hm, hc⟩ := hM.store w1.drew m (Dp.wrap (s.reg i.b + i.n)) (s.reg i.a) (Dp.wrap_word _) (hs.reg i.a) HI1.out
  refine Dp.wp_invoke _ _ "Store" rfl rfl T x rfl #[.int .u32 (Dp.wrap (s.reg i.b + i.n)), .int .u32 (s.reg i.a)] (by simp only [List.map_toArray, List.map_cons, List.map_nil]; rfl) f args hm (hc.mono ?_)
  clear hm hc f args
  intro e w2 h2
  cases hl : M.store m (Dp.wrap (s.reg i.b + i.n)) (s.reg i.a) with
  | none =>
    rw [hl, Dp.after_none] at h2
    obtain ⟨rfl, hbad⟩ := h2
    exact ⟨rfl, by rw [hl]; exact ⟨rfl, hbad⟩⟩
  | some r =>
    rw [hl, Dp.after_some] at h2
    obtain ⟨rfl, he, hI2, hk2⟩ := h2
    have HL := Hid.mk_ hl
    have hp2 := hp1.drew.keep hk2 HP.out
    refine hK _ _ ⟨fun h => absurd h (Nat.lt_irrefl _), ?_⟩
    clear hK K
    simp only [Act.put, List.getElem_toArray, List.getElem_cons_zero, List.getElem_cons_succ, List.setIfInBounds_toArray, List.set_cons_zero, List.set_cons_succ]
    refine Dp.wpAnyL_rest (by kernel_rfl) ?_
    refine' Dp.wpAny_pure 26 rfl (by kernel_rfl) (fun _ _ _ h => h) (.inl ⟨by rfl, ?hp26⟩) ?pest26
    case hp26 => intro wx; go_simp; try with_reducible rfl
    simp only [Act.put, List.getElem_toArray, List.getElem_cons_zero, List.getElem_cons_succ, List.setIfInBounds_toArray, List.set_cons_zero, List.set_cons_succ]
    refine wpAny_done (by kernel_rfl) ?_ _
    clear q0 q1 q2 q3 q4 qa qb qm hl
    obtain ⟨c0, _, _, _⟩ := hp2.core
    have f0 := hp2.frozen 0
    have HR : Hid (Dp.Row (w2.setCell ⟨p, 0, none⟩ (.int .u32 (Dp.wrap (s.pc + 1)))) p 109 (Dp.coreCells { s with pc := Dp.wrap (s.pc + 1) } (.iface T x))) := hp2.set 0 _
    have HK : Hid (Dp.Keeps (fun k => k = p) w2 (w2.setCell ⟨p, 0, none⟩ (.int .u32 (Dp.wrap (s.pc + 1))))) := Dp.Keeps.setCell (S := fun k => k = p) (p := ⟨p, 0, none⟩) (Dp.Keeps.refl _ _) (.inr rfl) _
    by_cases hz : r.2 = 0
    · go_wp2
      go_ret
      rw [HL.out, Dp.after_some]
      exact ⟨by rw [hz]; rfl, by simp only [hz, ne_eq, not_true_eq_false, if_false]; exact HR.out, hM.keep' hI2 HK.out⟩
    · go_wp2
      go_ret
      rw [HL.out, Dp.after_some]
      exact ⟨rfl, by simp only [hz, ne_eq, not_false_eq_true, if_true]; exact hp2, hI2⟩

set_option maxRecDepth 100000 in
set_option maxHeartbeats 1000000 in
theorem progAsk {σ : Type} (M : Dp.Memo σ) (F : World → Nat → Prop) (Inv Inv' : World → σ → Prop) (Bad : World → Prop) (g : List PanicEntry) (T : TypeId) (x : Value) (s : Dp.Cs) (i : Dp.Ins) (p : Nat) (w : World) (m : σ) (hs : s.Ok) (hi : i.Ok) (hM : Dp.MemOk Tryz.prog p T x M F Inv Inv' Bad g) (hp : Dp.Row w p 109 (Dp.coreCells s (.iface T x))) (hI : Inv w m) :
    Calls Tryz.prog 134 #[.pointer (some ⟨p, 0, none⟩), .agg (Dp.pinsCells i).toArray] w fun e w' => Dp.after (M.source m (s.reg i.b)) (e = .panicked g ∧ Bad w') fun r => e = .returned (.int .i64 r.2.2) ∧ Dp.Row w' p 109 (Dp.coreCells (if r.2.2 ≠ 0 then s else Dp.putted s i (Dp.told r.2.1 (s.reg i.c))) (.iface T x)) ∧ Inv' w' r.1 := by
  have hlt := hp.lt
  go_enter Tryz.func134, Tryz.ntmps134
  go_wp2_with (refine Dp.wpList_box_row rfl 165 _ rfl (Dp.pinsCells i) rfl ?_)
  intro w1 r1 z1 k1
  have hp1 := hp.keep k1 (fun e => e)
  have hkk := hM.keep hI (Dp.Keeps.mono (T := fun k => k = p) k1 (fun _ _ e => e.elim)).drew
  have HI1 := Hid.mk_ hkk.1
  have HF : Hid (¬ F w1.drew w.heap.size) := fun h => by have := (hM.foot hI (hkk.2 _ h)).1; omega
  have HP : Hid (¬ F w1.drew p) := fun h => (hM.foot hI (hkk.2 _ h)).2 rfl
  clear hkk
  have q0 : ∀ wx, Dp.Keeps (fun _ => False) w1 wx → wx.cell? ⟨w.heap.size, 0, none⟩ = some (.int .u32 i.op) := fun wx kx => ((r1.keep kx (fun e => e)).pins).1
  have q1 : ∀ wx, Dp.Keeps (fun _ => False) w1 wx → wx.cell? ⟨w.heap.size, 1, none⟩ = some (.int .u32 i.a) := fun wx kx => ((r1.keep kx (fun e => e)).pins).2.1
  have q2 : ∀ wx, Dp.Keeps (fun _ => False) w1 wx → wx.cell? ⟨w.heap.size, 2, none⟩ = some (.int .u32 i.b) := fun wx kx => ((r1.keep kx (fun e => e)).pins).2.2.1
  have q3 : ∀ wx, Dp.Keeps (fun _ => False) w1 wx → wx.cell? ⟨w.heap.size, 3, none⟩ = some (.int .u32 i.c) := fun wx kx => ((r1.keep kx (fun e => e)).pins).2.2.2.1
  have q4 : ∀ wx, Dp.Keeps (fun _ => False) w1 wx → wx.cell? ⟨w.heap.size, 4, none⟩ = some (.int .u32 (Dp.wrap i.n)) := fun wx kx => ((r1.keep kx (fun e => e)).pins).2.2.2.2
  have qa : ∀ wx, Dp.Keeps (fun _ => False) w1 wx → wx.cell? ⟨p, 4 + i.a.toNat, none⟩ = some (.int .u32 (s.reg i.a)) := fun wx kx => (hp1.keep kx (fun e => e)).coreReg hs.len i.a hi.a
  have qb : ∀ wx, Dp.Keeps (fun _ => False) w1 wx → wx.cell? ⟨p, 4 + i.b.toNat, none⟩ = some (.int .u32 (s.reg i.b)) := fun wx kx => (hp1.keep kx (fun e => e)).coreReg hs.len i.b hi.b
  have qm : ∀ wx, Dp.Keeps (fun _ => False) w1 wx → wx.cell? ⟨p, 12, none⟩ = some (.iface T x) := fun wx kx => (hp1.keep kx (fun e => e)).coreMem hs.len
  have hia := hi.a
  have hib := hi.b
  have ha := hs.reg i.a
  have hb := hs.reg i.b
  have hnw := Dp.wrap_word i.n
  unfold Dp.isWord at ha hb hnw
  have hS0 : Dp.Keeps (fun _ => False) w1 w1.drew := (Dp.Keeps.refl _ _).drew
  go_wp2
  refine Dp.wp_region_L (fun wx => Dp.Keeps (fun _ => False) w1 wx) 14 mixedP ?_
  refine' Dp.wpAnyL_take 0 rfl (by kernel_rfl) (fun _ _ _ h => h) (by rfl) ?hy0 hS0 ?rest0
  case hy0 => intro wx hSx; go_simp; try with_reducible rfl
  simp only [Act.put, List.getElem_toArray, List.getElem_cons_zero, List.setIfInBounds_toArray, List.set_cons_zero, List.set_cons_succ]
  refine' Dp.wpAnyL_take 1 rfl (by kernel_rfl) (fun _ _ _ h => h) (by rfl) ?hy1 hS0 ?rest1
  case hy1 => intro wx hSx; go_simp; try with_reducible rfl
  simp only [Act.put, List.getElem_toArray, List.getElem_cons_zero, List.getElem_cons_succ, List.setIfInBounds_toArray, List.set_cons_zero, List.set_cons_succ]
  refine' Dp.wpAnyL_take 2 rfl (by kernel_rfl) (fun _ _ _ h => h) (by rfl) ?hy2 hS0 ?rest2
  case hy2 => intro wx hSx; go_simp; try with_reducible rfl
  simp only [Act.put, List.getElem_toArray, List.getElem_cons_zero, List.getElem_cons_succ, List.setIfInBounds_toArray, List.set_cons_zero, List.set_cons_succ]
  refine' Dp.wpAnyL_take 3 rfl (by kernel_rfl) (fun _ _ _ h => h) (by rfl) ?hy3 hS0 ?rest3
  case hy3 => intro wx hSx; go_simp; try with_reducible rfl
  simp only [Act.put, List.getElem_toArray, List.getElem_cons_zero, List.getElem_cons_succ, List.setIfInBounds_toArray, List.set_cons_zero, List.set_cons_succ]
  refine' Dp.wpAnyL_take 4 rfl (by kernel_rfl) (fun _ _ _ h => h) (by rfl) ?hy4 hS0 ?rest4
  case hy4 => intro wx hSx; go_simp; try with_reducible rfl
  simp only [Act.put, List.getElem_toArray, List.getElem_cons_zero, List.getElem_cons_succ, List.setIfInBounds_toArray, List.set_cons_zero, List.set_cons_succ]
  refine' Dp.wpAnyL_take 5 rfl (by kernel_rfl) (fun _ _ _ h => h) (by rfl) ?hy5 hS0 ?rest5
  case hy5 => intro wx hSx; go_simp; try with_reducible rfl
  simp only [Act.put, List.getElem_toArray, List.getElem_cons_zero, List.getElem_cons_succ, List.setIfInBounds_toArray, List.set_cons_zero, List.set_cons_succ]
  refine' Dp.wpAnyL_take 6 rfl (by kernel_rfl) (fun _ _ _ h => h) (by rfl) ?hy6 hS0 ?rest6
  case hy6 => intro wx hSx; go_simp; try with_reducible rfl
  simp only [Act.put, List.getElem_toArray, List.getElem_cons_zero, List.getElem_cons_succ, List.setIfInBounds_toArray, List.set_cons_zero, List.set_cons_succ]
  refine' Dp.wpAnyL_take 7 rfl (by kernel_rfl) (fun _ _ _ h => h) (by rfl) ?hy7 hS0 ?rest7
  case hy7 => intro wx hSx; go_simp; try with_reducible rfl
  simp only [Act.put, List.getElem_toArray, List.getElem_cons_zero, List.getElem_cons_succ, List.setIfInBounds_toArray, List.set_cons_zero, List.set_cons_succ]
  refine' Dp.wpAnyL_take 8 rfl (by kernel_rfl) (fun _ _ _ h => h) (by rfl) ?hy8 hS0 ?rest8
  case hy8 => intro wx hSx; go_simp; try with_reducible rfl
  simp only [Act.put, List.getElem_toArray, List.getElem_cons_zero, List.getElem_cons_succ, List.setIfInBounds_toArray, List.set_cons_zero, List.set_cons_succ]
  refine' Dp.wpAnyL_take 9 rfl (by kernel_rfl) (fun _ _ _ h => h) (by rfl) ?hy9 hS0 ?rest9
  case hy9 => intro wx hSx; go_simp; try with_reducible rfl
  simp only [Act.put, List.getElem_toArray, List.getElem_cons_zero, List.getElem_cons_succ, List.setIfInBounds_toArray, List.set_cons_zero, List.set_cons_succ]
  refine' Dp.wpAnyL_take 10 rfl (by kernel_rfl) (fun _ _ _ h => h) (by rfl) ?hy10 hS0 ?rest10
  case hy10 => intro wx hSx; go_simp; try with_reducible rfl
  simp only [Act.put, List.getElem_toArray, List.getElem_cons_zero, List.getElem_cons_succ, List.setIfInBounds_toArray, List.set_cons_zero, List.set_cons_succ]
  refine' Dp.wpAnyL_take 11 rfl (by kernel_rfl) (fun _ _ _ h => h) (by rfl) ?hy11 hS0 ?rest11
  case hy11 => intro wx hSx; go_simp; try with_reducible rfl
  simp only [Act.put, List.getElem_toArray, List.getElem_cons_zero, List.getElem_cons_succ, List.setIfInBounds_toArray, List.set_cons_zero, List.set_cons_succ]
  refine' Dp.wpAnyL_take 12 rfl (by kernel_rfl) (fun _ _ _ h => h) (by rfl) ?hy12 hS0 ?rest12
  case hy12 => intro wx hSx; go_simp; try with_reducible rfl
  simp only [Act.put, List.getElem_toArray, List.getElem_cons_zero, List.getElem_cons_succ, List.setIfInBounds_toArray, List.set_cons_zero, List.set_cons_succ]
  refine' Dp.wpAnyL_take 13 rfl (by kernel_rfl) (fun _ _ _ h => h) (by rfl) ?hy13 hS0 ?rest13
  case hy13 => intro wx hSx; go_simp; try with_reducible rfl
  simp only [Act.put, List.getElem_toArray, List.getElem_cons_zero, List.getElem_cons_succ, List.setIfInBounds_toArray, List.set_cons_zero, List.set_cons_succ]
  refine Dp.wpAnyL_one 14 rfl (by kernel_rfl) (by rfl) (fun K hK => ?_)
  obtain ⟨f, args, hm, hc⟩ := hM.source w1.drew m (s.reg i.b) (hs.reg i.b) HI1.out
  refine Dp.wp_invoke _ _ "Source" rfl rfl T x rfl #[.int .u32 (s.reg i.b)] (by simp only [List.map_toArray, List.map_cons, List.map_nil]; rfl) f args hm (hc.mono ?_)
  clear hm hc f args
  intro e w2 h2
  cases hl : M.source m (s.reg i.b) with
  | none =>
    rw [hl, Dp.after_none] at h2
    obtain ⟨rfl, hbad⟩ := h2
    exact ⟨rfl, by rw [hl]; exact ⟨rfl, hbad⟩⟩
  | some r =>
    rw [hl, Dp.after_some] at h2
    obtain ⟨⟨v, rfl, hv⟩, he, hI2, hk2⟩ := h2
    have HL := Hid.mk_ hl
    have hp2 := hp1.drew.keep hk2 HP.out
    have r2 := r1.drew.keep hk2 HF.out
    have HB := Hid.mk_ hv
    obtain ⟨vb, vo, vad, vcap, ev, _, _, _⟩ := hv
    have EV := Hid.mk_ ev
    rw [ev] at HB ⊢
    clear ev EV
    refine hK _ _ ⟨fun h => absurd h (Nat.lt_irrefl _), ?_⟩
    clear hK K
    simp only [Act.put, List.getElem_toArray, List.getElem_cons_zero, List.getElem_cons_succ, List.setIfInBounds_toArray, List.set_cons_zero, List.set_cons_succ]
    refine Dp.wpAnyL_rest (by kernel_rfl) ?_
    refine' Dp.wpAny_pure 15 rfl (by kernel_rfl) (fun _ _ _ h => h) (.inl ⟨by rfl, ?hp15⟩) ?pest15
    case hp15 => intro wx; go_simp; try with_reducible rfl
    simp only [Act.put, List.getElem_toArray, List.getElem_cons_zero, List.getElem_cons_succ, List.setIfInBounds_toArray, List.set_cons_zero, List.set_cons_succ]
    refine' Dp.wpAny_pure 16 rfl (by kernel_rfl) (fun _ _ _ h => h) (.inl ⟨by rfl, ?hp16⟩) ?pest16
    case hp16 => intro wx; go_simp; try with_reducible rfl
    simp only [Act.put, List.getElem_toArray, List.getElem_cons_zero, List.getElem_cons_succ, List.setIfInBounds_toArray, List.set_cons_zero, List.set_cons_succ]
    refine' Dp.wpAny_pure 17 rfl (by kernel_rfl) (fun _ _ _ h => h) (.inl ⟨by rfl, ?hp17⟩) ?pest17
    case hp17 => intro wx; go_simp; try with_reducible rfl
    simp only [Act.put, List.getElem_toArray, List.getElem_cons_zero, List.getElem_cons_succ, List.setIfInBounds_toArray, List.set_cons_zero, List.set_cons_succ]
    refine' Dp.wpAny_pure 18 rfl (by kernel_rfl) (fun _ _ _ h => h) (.inl ⟨by rfl, ?hp18⟩) ?pest18
    case hp18 => intro wx; go_simp; try with_reducible rfl
    simp only [Act.put, List.getElem_toArray, List.getElem_cons_zero, List.getElem_cons_succ, List.setIfInBounds_toArray, List.set_cons_zero, List.set_cons_succ]
    refine' Dp.wpAny_pure 19 rfl (by kernel_rfl) (fun _ _ _ h => h) (.inl ⟨by rfl, ?hp19⟩) ?pest19
    case hp19 => intro wx; go_simp; try with_reducible rfl
    simp only [Act.put, List.getElem_toArray, List.getElem_cons_zero, List.getElem_cons_succ, List.setIfInBounds_toArray, List.set_cons_zero, List.set_cons_succ]
    refine wpAny_done (by kernel_rfl) ?_ _
    clear q0 q1 q2 q3 q4 qa qb qm hl hS0
    by_cases hz : r.2.2 = 0
    · rw [hz]
      have q0 : ∀ wx, Dp.Keeps (fun _ => False) w2 wx → wx.cell? ⟨w.heap.size, 0, none⟩ = some (.int .u32 i.op) := fun wx kx => ((r2.keep kx (fun e => e)).pins).1
      have q1 : ∀ wx, Dp.Keeps (fun _ => False) w2 wx → wx.cell? ⟨w.heap.size, 1, none⟩ = some (.int .u32 i.a) := fun wx kx => ((r2.keep kx (fun e => e)).pins).2.1
      have q2 : ∀ wx, Dp.Keeps (fun _ => False) w2 wx → wx.cell? ⟨w.heap.size, 2, none⟩ = some (.int .u32 i.b) := fun wx kx => ((r2.keep kx (fun e => e)).pins).2.2.1
      have q3 : ∀ wx, Dp.Keeps (fun _ => False) w2 wx → wx.cell? ⟨w.heap.size, 3, none⟩ = some (.int .u32 i.c) := fun wx kx => ((r2.keep kx (fun e => e)).pins).2.2.2.1
      have q4 : ∀ wx, Dp.Keeps (fun _ => False) w2 wx → wx.cell? ⟨w.heap.size, 4, none⟩ = some (.int .u32 (Dp.wrap i.n)) := fun wx kx => ((r2.keep kx (fun e => e)).pins).2.2.2.2
      have qc : ∀ wx, Dp.Keeps (fun _ => False) w2 wx → wx.cell? ⟨p, 4 + i.c.toNat, none⟩ = some (.int .u32 (s.reg i.c)) := fun wx kx => (hp2.keep kx (fun e => e)).coreReg hs.len i.c hi.c
      have hic := hi.c
      have hS0 : Dp.Keeps (fun _ => False) w2 w2.drew := (Dp.Keeps.refl _ _).drew
      go_wp2
      refine Dp.wp_region_L (fun wx => Dp.Keeps (fun _ => False) w2 wx) 12 mixedP ?_
      refine' Dp.wpAnyL_take 0 rfl (by kernel_rfl) (fun _ _ _ h => h) (by rfl) ?ky0 hS0 ?kest0
      case ky0 => intro wx hSx; go_simp; try with_reducible rfl
      simp only [Act.put, List.getElem_toArray, List.getElem_cons_zero, List.setIfInBounds_toArray, List.set_cons_zero, List.set_cons_succ]
      refine' Dp.wpAnyL_take 1 rfl (by kernel_rfl) (fun _ _ _ h => h) (by rfl) ?ky1 hS0 ?kest1
      case ky1 => intro wx hSx; go_simp; try with_reducible rfl
      simp only [Act.put, List.getElem_toArray, List.getElem_cons_zero, List.getElem_cons_succ, List.setIfInBounds_toArray, List.set_cons_zero, List.set_cons_succ]
      refine' Dp.wpAnyL_take 2 rfl (by kernel_rfl) (fun _ _ _ h => h) (by rfl) ?ky2 hS0 ?kest2
      case ky2 => intro wx hSx; go_simp; try with_reducible rfl
      simp only [Act.put, List.getElem_toArray, List.getElem_cons_zero, List.getElem_cons_succ, List.setIfInBounds_toArray, List.set_cons_zero, List.set_cons_succ]
      refine' Dp.wpAnyL_take 3 rfl (by kernel_rfl) (fun _ _ _ h => h) (by rfl) ?ky3 hS0 ?kest3
      case ky3 => intro wx hSx; go_simp; try with_reducible rfl
      simp only [Act.put, List.getElem_toArray, List.getElem_cons_zero, List.getElem_cons_succ, List.setIfInBounds_toArray, List.set_cons_zero, List.set_cons_succ]
      refine' Dp.wpAnyL_take 4 rfl (by kernel_rfl) (fun _ _ _ h => h) (by rfl) ?ky4 hS0 ?kest4
      case ky4 => intro wx hSx; go_simp; try with_reducible rfl
      simp only [Act.put, List.getElem_toArray, List.getElem_cons_zero, List.getElem_cons_succ, List.setIfInBounds_toArray, List.set_cons_zero, List.set_cons_succ]
      refine' Dp.wpAnyL_take 5 rfl (by kernel_rfl) (fun _ _ _ h => h) (by rfl) ?ky5 hS0 ?kest5
      case ky5 => intro wx hSx; go_simp; try with_reducible rfl
      simp only [Act.put, List.getElem_toArray, List.getElem_cons_zero, List.getElem_cons_succ, List.setIfInBounds_toArray, List.set_cons_zero, List.set_cons_succ]
      refine' Dp.wpAnyL_take 6 rfl (by kernel_rfl) (fun _ _ _ h => h) (by rfl) ?ky6 hS0 ?kest6
      case ky6 => intro wx hSx; go_simp; try with_reducible rfl
      simp only [Act.put, List.getElem_toArray, List.getElem_cons_zero, List.getElem_cons_succ, List.setIfInBounds_toArray, List.set_cons_zero, List.set_cons_succ]
      refine' Dp.wpAnyL_take 7 rfl (by kernel_rfl) (fun _ _ _ h => h) (by rfl) ?ky7 hS0 ?kest7
      case ky7 => intro wx hSx; go_simp; try with_reducible rfl
      simp only [Act.put, List.getElem_toArray, List.getElem_cons_zero, List.getElem_cons_succ, List.setIfInBounds_toArray, List.set_cons_zero, List.set_cons_succ]
      refine' Dp.wpAnyL_take 8 rfl (by kernel_rfl) (fun _ _ _ h => h) (by rfl) ?ky8 hS0 ?kest8
      case ky8 => intro wx hSx; go_simp; try with_reducible rfl
      simp only [Act.put, List.getElem_toArray, List.getElem_cons_zero, List.getElem_cons_succ, List.setIfInBounds_toArray, List.set_cons_zero, List.set_cons_succ]
      refine' Dp.wpAnyL_take 9 rfl (by kernel_rfl) (fun _ _ _ h => h) (by rfl) ?ky9 hS0 ?kest9
      case ky9 => intro wx hSx; go_simp; try with_reducible rfl
      simp only [Act.put, List.getElem_toArray, List.getElem_cons_zero, List.getElem_cons_succ, List.setIfInBounds_toArray, List.set_cons_zero, List.set_cons_succ]
      refine' Dp.wpAnyL_take 10 rfl (by kernel_rfl) (fun _ _ _ h => h) (by rfl) ?ky10 hS0 ?kest10
      case ky10 => intro wx hSx; go_simp; try with_reducible rfl
      simp only [Act.put, List.getElem_toArray, List.getElem_cons_zero, List.getElem_cons_succ, List.setIfInBounds_toArray, List.set_cons_zero, List.set_cons_succ]
      refine Dp.wpAnyL_one 11 rfl (by kernel_rfl) (by rfl) (fun K hK => ?_)
      go_simp
      refine (progWordAt _ r.2.1 (s.reg i.c) w2.drew HB.out (hs.reg i.c)).mono ?_
      rintro e w' ⟨rfl, rfl⟩
      refine hK _ _ ⟨fun _ => hS0, ?_⟩
      clear hK K
      refine Dp.wpAnyL_one 12 rfl (by kernel_rfl) (by rfl) (fun K hK => ?_)
      go_simp
      refine (progPut s (.iface T x) i _ p _ hs hi hp2.drew).mono ?_
      rintro e w3 ⟨rfl, hr3, hk3⟩
      refine hK _ _ ⟨fun h => absurd h (Nat.lt_irrefl _), ?_⟩
      clear hK K
      refine Dp.wpAnyL_one 13 rfl (by kernel_rfl) (by rfl) (fun K hK => ?_)
      go_simp
      refine hK _ _ ⟨fun h => absurd h (by decide), ?_⟩
      clear hK K
      refine Dp.wpAnyL_done (by kernel_rfl) ?_ _
      go_wp2
      go_ret
      rw [HL.out, Dp.after_some]
      exact ⟨by rw [hz]; rfl, by simp only [hz, ne_eq, not_true_eq_false, if_false]; exact hr3, hM.keep' hI2 ((Dp.Keeps.refl _ _).drew.next hk3 (fun _ _ e => e))⟩
    · go_wp2
      go_ret
      rw [HL.out, Dp.after_some]
      exact ⟨rfl, by simp only [hz, ne_eq, not_false_eq_true, if_true]; exact hp2, hI2⟩

end Go.Proofs.YtdipojfngdceoabGreatDoor
