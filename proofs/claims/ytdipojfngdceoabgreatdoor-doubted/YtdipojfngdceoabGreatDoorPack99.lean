/- Steps on the way: ProgCollideM. -/
import Derived.Test.YtdipojfngdceoabGreatDoorPack98
/- A machine's Collision. -/
namespace Go.Proofs.YtdipojfngdceoabGreatDoor
open Go.RowKit

set_option maxRecDepth 100000 in
set_option maxHeartbeats 1000000 in
theorem progMCollision (w : World) (eb : Addr) (b : Nat) (G : Nat → Prop) (vs : Value) (m : Dp.Mach) (h : Dp.ProgM w b G vs m) (ad : Option Addr) (cap : Nat) (l : List UInt8) (he : Dp.ErrAt w eb) (hc : Dp.Cutting w (.slice ad l.length cap) l) (hl : l.length ≤ 9223372036854775807) :
    Calls Tryz.prog 13 #[.pointer (some ⟨b, 0, none⟩), .slice ad l.length cap] w fun e w' => Dp.Keeps (fun _ => False) w w' ∧ ((¬ Dp.collides m l ∧ e = .returned (.tuple #[.slice none 0 0, .slice none 0 0, .bool false])) ∨ (Dp.collides m l ∧ ∃ a b A B, e = .returned (.tuple #[a, b, .bool true]) ∧ Dp.Two w w' a b A B)) := by
  have hS0 : Dp.Keeps (fun _ => False) w w.drew := (Dp.Keeps.refl _ _).drew
  have HL0 : Hid (∀ wx, Dp.Keeps (fun _ => False) w wx → (Instr.loadAt 79 (.pointer (some ⟨b, 0, none⟩))).run Tryz.prog wx = .ok (.agg (Dp.stateCells m.s).toArray) wx) := fun wx kx => runLoadPS (h.row.keep kx (fun e => e)) h.ok.s.len
  have HL1 : Hid (∀ wx, Dp.Keeps (fun _ => False) w wx → (Instr.loadAt 84 (.pointer (some ⟨b, 12, none⟩))).run Tryz.prog wx = .ok (.agg (Dp.memCells vs m.cells).toArray) wx) := fun wx kx => runLoadMem (post := []) (by rw [List.append_nil]; exact h.row.keep kx (fun e => e)) (Dp.stateCells_length _ h.ok.s.len) h.ok.len
  have HW : Hid (∀ wx, Dp.Keeps (fun _ => False) w wx → Calls Tryz.prog 31 #[.agg (Dp.stateCells m.s).toArray, .agg (Dp.memCells vs m.cells).toArray, .slice ad l.length cap] wx fun e w' => Dp.Keeps (fun _ => False) wx w' ∧ ((¬ Dp.collides m l ∧ e = .returned (.tuple #[.slice none 0 0, .slice none 0 0, .bool false])) ∨ (Dp.collides m l ∧ ∃ a b A B, e = .returned (.tuple #[a, b, .bool true]) ∧ Dp.Two wx w' a b A B))) :=
    fun wx kx => progVCollision G wx eb m vs ad cap l (he.keep kx) h.ok (h.src.keep kx (fun g hg => ⟨(h.own g hg).1, fun e => e⟩)) (fun g hg => Nat.lt_of_lt_of_le (h.own g hg).1 kx.size) (hc.still kx) hl
  clear h hc he
  go_enter Tryz.func13, Tryz.ntmps13
  go_wp2
  refine Dp.wp_region_L (fun wx => Dp.Keeps (fun _ => False) w wx) 9 mixedP ?_
  refine' Dp.wpAnyL_take 0 rfl (by kernel_rfl) (fun _ _ _ h => h) (by rfl) ?hya0 hS0 ?resta0
  case hya0 => intro wx hSx; go_simp; try with_reducible rfl
  simp only [Act.put, List.getElem_toArray, List.getElem_cons_zero, List.setIfInBounds_toArray, List.set_cons_zero, List.set_cons_succ]
  refine' Dp.wpAnyL_take 1 rfl (by kernel_rfl) (fun _ _ _ h => h) (by rfl) ?hya1 hS0 ?resta1
  case hya1 => intro wx hSx; go_simp; try with_reducible rfl
  simp only [Act.put, List.getElem_toArray, List.getElem_cons_zero, List.getElem_cons_succ, List.setIfInBounds_toArray, List.set_cons_zero, List.set_cons_succ]
  refine' Dp.wpAnyL_take 2 rfl (by kernel_rfl) (fun _ _ _ h => h) (by rfl) ?hya2 hS0 ?resta2
  case hya2 => intro wx hSx; go_simp; try with_reducible rfl
  simp only [Act.put, List.getElem_toArray, List.getElem_cons_zero, List.getElem_cons_succ, List.setIfInBounds_toArray, List.set_cons_zero, List.set_cons_succ]
  refine' Dp.wpAnyL_take (v := .agg (Dp.stateCells m.s).toArray) 3 rfl (by kernel_rfl) (fun _ _ _ h => h) (by rfl) ?hyp3 hS0 ?restp3
  case hyp3 => intro wx hSx; exact Dp.run_load_op rfl rfl (HL0.out wx hSx)
  simp only [Act.put, List.getElem_toArray, List.getElem_cons_zero, List.getElem_cons_succ, List.setIfInBounds_toArray, List.set_cons_zero, List.set_cons_succ]
  refine' Dp.wpAnyL_take 4 rfl (by kernel_rfl) (fun _ _ _ h => h) (by rfl) ?hyb4 hS0 ?restb4
  case hyb4 => intro wx hSx; go_simp; try with_reducible rfl
  simp only [Act.put, List.getElem_toArray, List.getElem_cons_zero, List.getElem_cons_succ, List.setIfInBounds_toArray, List.set_cons_zero, List.set_cons_succ]
  refine' Dp.wpAnyL_take 5 rfl (by kernel_rfl) (fun _ _ _ h => h) (by rfl) ?hyb5 hS0 ?restb5
  case hyb5 => intro wx hSx; go_simp; try with_reducible rfl
  simp only [Act.put, List.getElem_toArray, List.getElem_cons_zero, List.getElem_cons_succ, List.setIfInBounds_toArray, List.set_cons_zero, List.set_cons_succ]
  refine' Dp.wpAnyL_take 6 rfl (by kernel_rfl) (fun _ _ _ h => h) (by rfl) ?hyb6 hS0 ?restb6
  case hyb6 => intro wx hSx; go_simp; try with_reducible rfl
  simp only [Act.put, List.getElem_toArray, List.getElem_cons_zero, List.getElem_cons_succ, List.setIfInBounds_toArray, List.set_cons_zero, List.set_cons_succ]
  refine' Dp.wpAnyL_take (v := .agg (Dp.memCells vs m.cells).toArray) 7 rfl (by kernel_rfl) (fun _ _ _ h => h) (by rfl) ?hyp7 hS0 ?restp7
  case hyp7 => intro wx hSx; exact Dp.run_load_op rfl rfl (HL1.out wx hSx)
  simp only [Act.put, List.getElem_toArray, List.getElem_cons_zero, List.getElem_cons_succ, List.setIfInBounds_toArray, List.set_cons_zero, List.set_cons_succ]
  refine' Dp.wpAnyL_take 8 rfl (by kernel_rfl) (fun _ _ _ h => h) (by rfl) ?hyc8 hS0 ?restc8
  case hyc8 => intro wx hSx; go_simp; try with_reducible rfl
  simp only [Act.put, List.getElem_toArray, List.getElem_cons_zero, List.getElem_cons_succ, List.setIfInBounds_toArray, List.set_cons_zero, List.set_cons_succ]
  refine Dp.wpAnyL_one 9 rfl (by kernel_rfl) (by rfl) (fun K hK => ?_)
  go_simp
  refine (HW.out _ hS0).mono ?_
  rintro e w2 ⟨k2, ⟨hn, rfl⟩ | ⟨hy, a, b, A, B, rfl, hT⟩⟩
  · have HN := Hid.mk_ hn
    have HK := Hid.mk_ (hS0.trans k2)
    clear hn
    refine hK _ _ ⟨fun h => absurd h (Nat.lt_irrefl _), ?_⟩
    clear hK K
    refine Dp.wpAnyL_rest (by kernel_rfl) ?_
    refine' Dp.wpAny_pure 10 rfl (by kernel_rfl) (fun _ _ _ h => h) (.inl ⟨by rfl, ?hpd10⟩) ?pestd10
    case hpd10 => intro wx; go_simp; try with_reducible rfl
    simp only [Act.put, List.getElem_toArray, List.getElem_cons_zero, List.getElem_cons_succ, List.setIfInBounds_toArray, List.set_cons_zero, List.set_cons_succ]
    refine' Dp.wpAny_pure 11 rfl (by kernel_rfl) (fun _ _ _ h => h) (.inl ⟨by rfl, ?hpd11⟩) ?pestd11
    case hpd11 => intro wx; go_simp; try with_reducible rfl
    simp only [Act.put, List.getElem_toArray, List.getElem_cons_zero, List.getElem_cons_succ, List.setIfInBounds_toArray, List.set_cons_zero, List.set_cons_succ]
    refine' Dp.wpAny_pure 12 rfl (by kernel_rfl) (fun _ _ _ h => h) (.inl ⟨by rfl, ?hpd12⟩) ?pestd12
    case hpd12 => intro wx; go_simp; try with_reducible rfl
    simp only [Act.put, List.getElem_toArray, List.getElem_cons_zero, List.getElem_cons_succ, List.setIfInBounds_toArray, List.set_cons_zero, List.set_cons_succ]
    refine Dp.wpAny_tail 13 rfl (by kernel_rfl) ?_
    simp only [List.drop_succ_cons, List.drop_zero]
    go_wp2
    go_ret3
    exact ⟨HK.out, .inl ⟨HN.out, rfl⟩⟩
  · have HN := Hid.mk_ hy
    have HK := Hid.mk_ (hS0.trans k2)
    have HT : Hid (Dp.Two w w2 a b A B) := ⟨hT.own1, hT.own2, hT.ne, hT.sum, fun g hg => by have := hT.new1 g hg; have := hS0.size; omega, fun g hg => by have := hT.new2 g hg; have := hS0.size; omega, hT.apart, hT.small1, hT.small2⟩
    clear hy hT
    refine hK _ _ ⟨fun h => absurd h (Nat.lt_irrefl _), ?_⟩
    clear hK K
    refine Dp.wpAnyL_rest (by kernel_rfl) ?_
    refine' Dp.wpAny_pure 10 rfl (by kernel_rfl) (fun _ _ _ h => h) (.inl ⟨by rfl, ?hpe10⟩) ?peste10
    case hpe10 => intro wx; go_simp; try with_reducible rfl
    simp only [Act.put, List.getElem_toArray, List.getElem_cons_zero, List.getElem_cons_succ, List.setIfInBounds_toArray, List.set_cons_zero, List.set_cons_succ]
    refine' Dp.wpAny_pure 11 rfl (by kernel_rfl) (fun _ _ _ h => h) (.inl ⟨by rfl, ?hpe11⟩) ?peste11
    case hpe11 => intro wx; go_simp; try with_reducible rfl
    simp only [Act.put, List.getElem_toArray, List.getElem_cons_zero, List.getElem_cons_succ, List.setIfInBounds_toArray, List.set_cons_zero, List.set_cons_succ]
    refine' Dp.wpAny_pure 12 rfl (by kernel_rfl) (fun _ _ _ h => h) (.inl ⟨by rfl, ?hpe12⟩) ?peste12
    case hpe12 => intro wx; go_simp; try with_reducible rfl
    simp only [Act.put, List.getElem_toArray, List.getElem_cons_zero, List.getElem_cons_succ, List.setIfInBounds_toArray, List.set_cons_zero, List.set_cons_succ]
    refine Dp.wpAny_tail 13 rfl (by kernel_rfl) ?_
    simp only [List.drop_succ_cons, List.drop_zero]
    go_wp2
    go_ret3
    exact ⟨HK.out, .inr ⟨HN.out, a, b, A, B, rfl, HT.out⟩⟩
end Go.Proofs.YtdipojfngdceoabGreatDoor
