/- Steps on the way: ProgRoot2, ProgWord, ProgMem. -/
import Derived.Test.YtdipojfngdceoaaGreatDoorShQ01
import Derived.Test.YtdipojfngdceoaaGreatDoorShQ03
import Derived.Test.YtdipojfngdceoaaGreatDoorShQ04
import Derived.Test.YtdipojfngdceoaaGreatDoorShQ09
import Derived.Test.YtdipojfngdceoaaGreatDoorShQ10
import Derived.Test.YtdipojfngdceoaaGreatDoorProg
import Derived.WalkKit
import Derived.WalkSpells
import Derived.WalkLawsBesides
namespace Go.Proofs.YtdipojfngdceoaaGreatDoor
open Go.RowKit
namespace Dp
def join (l : List Int) : List Int := (List.range (l.length / 2)).map fun k => sum (1 :: (two (l.getD (2 * k) 0) ++ two (l.getD (2 * k + 1) 0)))
theorem join_length (l : List Int) : (join l).length = l.length / 2 := by simp [join]
theorem level_getD (cells : List Int) (d k : Nat) (hk : k < 256 / 2 ^ d) : (level cells d).getD k 0 = digest cells (k * 2 ^ d) d := by
 rw [List.getD_eq_getElem?_getD, List.getElem?_eq_getElem (by rw [level_length]; exact hk)]
 simp [level]
theorem join_level (cells : List Int) (d : Nat) (hd : d < 8) : join (level cells d) = level cells (d + 1) := by
 have h2 : 256 / 2 ^ d = 2 * (256 / 2 ^ (d + 1)) := by
  rcases (by omega : d = 0 ∨ d = 1 ∨ d = 2 ∨ d = 3 ∨ d = 4 ∨ d = 5 ∨ d = 6 ∨ d = 7) with rfl | rfl | rfl | rfl | rfl | rfl | rfl | rfl <;> decide
 unfold join
 rw [level_length, h2]
 have e : 2 * (256 / 2 ^ (d + 1)) / 2 = 256 / 2 ^ (d + 1) := by omega
 rw [e]
 conv => rhs; unfold level
 apply List.map_congr_left
 intro k hk
 have hk' : k < 256 / 2 ^ (d + 1) := by simpa using hk
 rw [level_getD cells d (2 * k) (by omega), level_getD cells d (2 * k + 1) (by omega), digest_succ]
 have e1 : 2 * k * 2 ^ d = k * 2 ^ (d + 1) := by rw [Nat.pow_succ, Nat.mul_comm 2 k, Nat.mul_assoc, Nat.mul_comm 2]
 have e2 : (2 * k + 1) * 2 ^ d = k * 2 ^ (d + 1) + 2 ^ d := by rw [Nat.add_mul, e1, Nat.one_mul]
 rw [e1, e2]
theorem level_bd (cells : List Int) (d : Nat) : ∀ x ∈ level cells d, 0 ≤ x ∧ x < 65536 := by
 intro x hx
 simp only [level, List.mem_map] at hx
 obtain ⟨k, _, rfl⟩ := hx
 have := digest_bd cells (k * 2 ^ d) d
 omega
theorem regCells_at {w : World} {g : Nat} {e : TypeId} {l : List Int} (h : Row w g e (regCells l)) (k : Nat) (hk : k < l.length) : w.cell? ⟨g, k, none⟩ = some (.int .i64 (l.getD k 0)) := by
 rw [h.cell]; simp [regCells, hk]
theorem getD_bd {l : List Int} (h : ∀ x ∈ l, 0 ≤ x ∧ x < 65536) (k : Nat) : 0 ≤ l.getD k 0 ∧ l.getD k 0 < 65536 := by
 rw [List.getD_eq_getElem?_getD]
 cases e : l[k]? with
 | none => simp
 | some x => exact h x (List.mem_of_getElem? e)
end Dp
set_option maxRecDepth 100000 in
set_option maxHeartbeats 1000000 in
theorem progJoined (w : World) (g : Nat) (lv : List Int) (n : Nat) (hn : lv.length = n + n) (hn1 : 0 < n ∧ n ≤ 128) (hr : Dp.Row w g 3 (Dp.regCells lv)) (hb : ∀ x ∈ lv, 0 ≤ x ∧ x < 65536) :
  Calls Tryz.prog 75 #[.slice (some ⟨g, 0, none⟩) (n + n) (n + n)] w fun e w' => e = .returned (.slice (some ⟨w.heap.size, 0, none⟩) n n) ∧ Dp.Row w' w.heap.size 3 (Dp.regCells (Dp.join lv)) ∧ Dp.Keeps (fun _ => False) w w' := by
 have hlt := hr.lt
 go_enter Tryz.func75, Tryz.ntmps75
 go_wp2_with (at_make; refine Dp.wpList_make_row _ rfl _ _ 22 rfl 3 (.int .i64 0) 8 Tryz.underlying22 infoInt rfl _ _ _ _ n rfl rfl (by omega) (by omega) (by omega) (by unfold maxLen; omega) ?_)
 intro w1 r1 z1 k1
 have hjl : (Dp.join lv).length = n := by rw [Dp.join_length]; omega
 go_wp2
 go_loopw [4, 11] (fun _ i wr => ∃ k : Nat, k ≤ n ∧ i = .int .i64 k ∧ Dp.Row wr w.heap.size 3 (Dp.regCells ((Dp.join lv).take k) ++ List.replicate (n - k) (.int .i64 0)) ∧ Dp.Keeps (fun _ => False) w wr) (fun _ i _ => n - (intOf i).toNat)
 case atStart => exact ⟨0, Nat.zero_le _, rfl, r1, k1⟩
 case round =>
  obtain ⟨k, hk, rfl, rr, kr⟩ := hrel
  by_cases hk2 : k < n
  ·have hg := hr.keep kr (fun e => e)
   have qa : ∀ wx, Dp.Keeps (fun _ => False) wr wx → wx.cell? ⟨g, 2 * k, none⟩ = some (.int .i64 (lv.getD (2 * k) 0)) := fun wx kx => Dp.regCells_at (hg.keep kx (fun e => e)) (2 * k) (by omega)
   have qb : ∀ wx, Dp.Keeps (fun _ => False) wr wx → wx.cell? ⟨g, 2 * k + 1, none⟩ = some (.int .i64 (lv.getD (2 * k + 1) 0)) := fun wx kx => Dp.regCells_at (hg.keep kx (fun e => e)) (2 * k + 1) (by omega)
   have ha := Dp.getD_bd hb (2 * k)
   have hbb := Dp.getD_bd hb (2 * k + 1)
   have HG : Hid ((Dp.join lv)[k]'(by omega) = Dp.sum (1 :: (Dp.two (lv.getD (2 * k) 0) ++ Dp.two (lv.getD (2 * k + 1) 0)))) := by unfold Hid; simp [Dp.join]
   have HF := Hid.mk_ (Dp.fill_next (Dp.join lv) k (by omega) n hjl)
   generalize lv.getD (2 * k) 0 = xa at *
   generalize lv.getD (2 * k + 1) 0 = xb at *
   have hsb := Dp.sum_bd (1 :: (Dp.two xa ++ Dp.two xb))
   have hS0 : Dp.Keeps (fun _ => False) wr wr.drew := (Dp.Keeps.refl _ _).drew
   have e1 : IntKind.i64.wrap (2 * (k : Int)) = 2 * (k : Int) := IntWalk.i64_in _ (by omega)
   have e2 : IntKind.i64.wrap (2 * (k : Int) + 1) = 2 * (k : Int) + 1 := IntWalk.i64_in _ (by omega)
   have t1 : (2 * (k : Int)).toNat = 2 * k := by omega
   have t2 : (2 * (k : Int) + 1).toNat = 2 * k + 1 := by omega
   have b1 : 0 ≤ 2 * (k : Int) := by omega
   have b2 : 2 * (k : Int) < (n : Int) + (n : Int) := by omega
   have b3 : 0 ≤ 2 * (k : Int) + 1 := by omega
   have b4 : 2 * (k : Int) + 1 < (n : Int) + (n : Int) := by omega
   go_wp2
   refine Dp.wp_region_L (fun wx => Dp.Keeps (fun _ => False) wr wx) 14 mixedP ?_
   refine' Dp.tj 0 hS0 ?_
   simp only [Act.put, Dp.tks]
   refine' Dp.tj 1 hS0 ?_
   simp only [Act.put, Dp.tks]
   refine' Dp.tj 2 hS0 ?_
   simp only [Act.put, Dp.tks]
   refine' Dp.tj 3 hS0 ?_
   simp only [Act.put, Dp.tks]
   refine' Dp.tj 4 hS0 ?_
   simp only [Act.put, Dp.tks]
   refine' Dp.tj 5 hS0 ?_
   simp only [Act.put, Dp.tks]
   refine' Dp.tj 6 hS0 ?_
   simp only [Act.put, Dp.tks]
   refine' Dp.tj 7 hS0 ?_
   simp only [Act.put, Dp.tks]
   refine' Dp.tj 8 hS0 ?_
   simp only [Act.put, Dp.tks]
   refine' Dp.tj 9 hS0 ?_
   simp only [Act.put, Dp.tks]
   refine' Dp.tj 10 hS0 ?_
   simp only [Act.put, Dp.tks]
   refine' Dp.tj 11 hS0 ?_
   simp only [Act.put, Dp.tks]
   refine' Dp.tj 12 hS0 ?_
   simp only [Act.put, Dp.tks]
   refine Dp.wpAnyL_one 13 rfl (by kernel_rfl) (by rfl) (fun K hK => ?_)
   go_simp
   refine (progHalves xa xb _ ha hbb).mono ?_
   rintro e w3 ⟨rfl, k3⟩
   refine hK _ _ ⟨fun _ => hS0.trans k3, ?_⟩
   clear hK K
   refine Dp.wpAnyL_rest (by kernel_rfl) ?_
   refine Dp.wpAny_tail 14 rfl (by kernel_rfl) ?_
   simp only [List.drop_succ_cons, List.drop_zero]
   have rr3 := (rr.keep hS0 (fun e => e)).keep k3 (fun e => e)
   have c3 : w3.cell? ⟨w.heap.size, k, none⟩ = some (.int .i64 0) := by rw [rr3.cell]; exact Dp.fill_at _ k n hk2 hjl
   have f3 := rr3.frozen k
   have HR3 : Hid (Dp.Row (w3.setCell ⟨w.heap.size, k, none⟩ (.int .i64 (Dp.sum (1 :: (Dp.two xa ++ Dp.two xb))))) w.heap.size 3 (Dp.regCells ((Dp.join lv).take (k + 1)) ++ List.replicate (n - (k + 1)) (.int .i64 0))) := by
    have h := rr3.set k (.int .i64 (Dp.sum (1 :: (Dp.two xa ++ Dp.two xb))))
    rw [← HG.out, HF.out] at h
    rw [← HG.out]; exact h
   have HK3 : Hid (Dp.Keeps (fun _ => False) w (w3.setCell ⟨w.heap.size, k, none⟩ (.int .i64 (Dp.sum (1 :: (Dp.two xa ++ Dp.two xb)))))) := ((kr.trans hS0).trans k3).setCell (p := ⟨w.heap.size, k, none⟩) (.inl (Nat.le_refl _)) _
   generalize Dp.sum (1 :: (Dp.two xa ++ Dp.two xb)) = sx at *
   clear rr rr3 qa qb e1 e2 t1 t2 b1 b2 b3 b4
   go_wp2
   go_roundw
   case rel => exact ⟨k + 1, by omega, by go_num, HR3.out, HK3.out⟩
   case measure => simp [intOf]; omega
  ·obtain rfl : k = n := by omega
   have HR : Hid (Dp.Row wr w.heap.size 3 (Dp.regCells (Dp.join lv))) := by
    unfold Hid
    have h := rr
    rw [List.take_of_length_le (by omega), Nat.sub_self, List.replicate_zero, List.append_nil] at h
    exact h
   clear rr
   go_wp2
   go_ret
   exact ⟨rfl, HR.out, kr⟩
namespace Dp
def lenOf : Value → Nat
 | .slice _ n _ => n
 | _ => 0
theorem level_last (cells : List Int) : level cells 8 = [root cells] := by
 simp [level, root]
theorem pow_half (d : Nat) (hd : d < 8) : 256 / 2 ^ d = 256 / 2 ^ (d + 1) + 256 / 2 ^ (d + 1) ∧ 0 < 256 / 2 ^ (d + 1) ∧ 256 / 2 ^ (d + 1) ≤ 128 := by
 rcases (by omega : d = 0 ∨ d = 1 ∨ d = 2 ∨ d = 3 ∨ d = 4 ∨ d = 5 ∨ d = 6 ∨ d = 7) with rfl | rfl | rfl | rfl | rfl | rfl | rfl | rfl <;> decide
end Dp
set_option maxRecDepth 100000 in
set_option maxHeartbeats 1000000 in
theorem progRoot (w : World) (b o : Nat) (ty : TypeId) (pre post : List Value) (vs : Value) (cells : List Int) (hl : cells.length = 256) (hr : Dp.Row w b ty (pre ++ Dp.memCells vs cells ++ post)) (ho : pre.length = o) (hw : ∀ x ∈ cells, Dp.isWord x) :
  Calls Tryz.prog 50 #[.pointer (some ⟨b, o, none⟩)] w fun e w' => e = .returned (.int .i64 (Dp.root cells)) ∧ Dp.Keeps (fun _ => False) w w' := by
 go_enter Tryz.func50, Tryz.ntmps50
 go_wp2_with fail
 refine (progDigests w b o ty pre post vs cells hl hr ho hw).mono ?_
 rintro e w1 ⟨rfl, r1, k1⟩
 clear hr
 go_wp2
 go_loopw [3] (fun v wr => ∃ d g : Nat, d ≤ 8 ∧ v = .slice (some ⟨g, 0, none⟩) (256 / 2 ^ d) (256 / 2 ^ d) ∧ Dp.Row wr g 3 (Dp.regCells (Dp.level cells d)) ∧ Dp.Keeps (fun _ => False) w wr) (fun v _ => Dp.lenOf v)
 case atStart => exact ⟨0, w.heap.size, Nat.zero_le _, rfl, r1, k1⟩
 case round =>
  obtain ⟨d, g, hd, rfl, rr, kr⟩ := hrel
  by_cases hd8 : d < 8
  ·obtain ⟨h1, h2, h3⟩ := Dp.pow_half d hd8
   have hlev : (Dp.level cells d).length = 256 / 2 ^ (d + 1) + 256 / 2 ^ (d + 1) := by rw [Dp.level_length, h1]
   have HJ := Hid.mk_ (Dp.join_level cells d hd8)
   have HB := Hid.mk_ (Dp.level_bd cells d)
   have HE : Hid (256 / 2 ^ (d + 1) = 256 / 2 ^ (d + 1)) := rfl
   rw [h1]
   generalize hN : 256 / 2 ^ (d + 1) = N at *
   have HN := Hid.mk_ hN
   clear hN h1
   go_wp2_with fail
   refine (progJoined wr g (Dp.level cells d) N hlev ⟨h2, h3⟩ rr HB.out).mono ?_
   rintro e w3 ⟨rfl, r3, k3⟩
   rw [HJ.out] at r3
   go_wp2
   go_roundw
   case rel => exact ⟨d + 1, wr.heap.size, by omega, by rw [HN.out], r3, kr.trans k3⟩
   case measure => simp [Dp.lenOf]; omega
  ·obtain rfl : d = 8 := by omega
   have h1 : 256 / 2 ^ 8 = 1 := rfl
   rw [h1]
   have hc : wr.cell? ⟨g, 0, none⟩ = some (.int .i64 (Dp.root cells)) := by
    rw [rr.cell, Dp.level_last]; rfl
   have hb := Dp.root_bd cells
   clear rr h1
   go_wp2
   go_ret
   exact ⟨rfl, kr⟩
namespace Dp
def toldN (l : List UInt8) (at_ : Int) : Nat → Int
 | 0 => 0
 | k + 1 => toldN l at_ k * 256 + byteAt l (at_ + k)
theorem told_four (l : List UInt8) (at_ : Int) : toldN l at_ 4 = told l at_ := by
 unfold told
 simp only [toldN, Int.zero_mul, Int.zero_add, Int.ofNat_zero, Int.add_zero]
 simp
theorem toldN_bd (l : List UInt8) (at_ : Int) : ∀ k, 0 ≤ toldN l at_ k ∧ toldN l at_ k < 256 ^ k
 | 0 => by simp [toldN]
 | k + 1 => by
  have h := toldN_bd l at_ k
  have hb := byteAt_bd l (at_ + k)
  have e : (256 : Int) ^ (k + 1) = 256 ^ k * 256 := Int.pow_succ 256 k
  simp only [toldN]
  rw [e]
  generalize (256 : Int) ^ k = q at *
  omega
theorem or_byte (x b : Int) (hx : 0 ≤ x ∧ x < 16777216) (hb : 0 ≤ b ∧ b < 256) : Go.bits .or .u32 (x * 256) b = x * 256 + b := by
 obtain ⟨k, rfl⟩ := Int.eq_ofNat_of_zero_le hx.1
 obtain ⟨j, rfl⟩ := Int.eq_ofNat_of_zero_le hb.1
 have h := (bits_u32_nat (k * 256) j (by omega) (by omega)).2.1
 rw [show ((k * 256 : Nat) : Int) = (k : Int) * 256 by simp] at h
 rw [h]
 have e : k * 256 ||| j = k * 256 + j := by
  have := Nat.two_pow_add_eq_or_of_lt (i := 8) (b := j) (by omega) k
  rw [show (2 : Nat) ^ 8 = 256 from rfl, Nat.mul_comm] at this
  exact this.symm
 rw [e]; simp
end Dp
set_option maxRecDepth 100000 in
set_option maxHeartbeats 1000000 in
theorem progWordAt (v : Value) (l : List UInt8) (place : Int) (w : World) (hv : Dp.Bytes w v l) (hp : Dp.isWord place) :
  Calls Tryz.prog 153 #[v, .int .u32 place] w fun e w' => e = .returned (.int .u32 (Dp.told l place)) ∧ w' = w := by
 obtain ⟨b, o, ad, cap, rfl, hlen, hne, hcells⟩ := hv
 unfold maxLen at hlen
 unfold Dp.isWord at hp
 have HC := Hid.mk_ hcells
 have HN := Hid.mk_ hne
 clear hcells hne
 go_enter Tryz.func153, Tryz.ntmps153
 go_wp2
 go_loop [5, 6, 7, 8] (fun x _ _ i => ∃ k : Nat, k ≤ 4 ∧ i = .int .u64 k ∧ x = .int .u32 (Dp.toldN l place k)) (fun _ _ _ i => 4 - (intOf i).toNat)
 case atStart => exact ⟨0, by omega, rfl, rfl⟩
 case round =>
  obtain ⟨k, hk, rfl, rfl⟩ := hrel
  by_cases hlt : k < 4
  ·have hb := Dp.toldN_bd l place k
   have hb2 : Dp.toldN l place k < 16777216 := by
    have : (256 : Int) ^ k ≤ 16777216 := by
     rcases (by omega : k = 0 ∨ k = 1 ∨ k = 2 ∨ k = 3) with rfl | rfl | rfl | rfl <;> decide
    omega
   have HT : Hid (Dp.toldN l place (k + 1) = Dp.toldN l place k * 256 + Dp.byteAt l (place + k)) := rfl
   by_cases hin : place + k < l.length
   ·have hbb : Dp.byteAt l (place + k) = ((l[(place + k).toNat]'(by omega)).toNat : Int) := by
     unfold Dp.byteAt
     rw [if_pos hin, List.getD_eq_getElem?_getD, List.getElem?_eq_getElem (by omega)]
     rfl
    have had := HN.out (by intro e; simp [e] at hin; omega)
    subst had
    have hc := HC.out (place + k).toNat (by omega)
    rw [← hbb] at hc
    have hby := Dp.byteAt_bd l (place + k)
    have HO := Hid.mk_ (Dp.or_byte (Dp.toldN l place k) (Dp.byteAt l (place + k)) ⟨hb.1, hb2⟩ hby)
    have hb0 := hb.1
    clear hb hbb
    generalize Dp.toldN l place k = t at *
    generalize Dp.byteAt l (place + k) = bt at *
    go_wp2
    go_round
    case rel => exact ⟨k + 1, by omega, by go_num, by rw [HT.out, ← HO.out]⟩
    case measure => simp [intOf]; omega
   ·have hbb : Dp.byteAt l (place + k) = 0 := by unfold Dp.byteAt; rw [if_neg hin]
    have hb0 := hb.1
    rw [hbb] at HT
    clear hb hbb
    generalize Dp.toldN l place k = t at *
    go_wp2
    go_round
    case rel => exact ⟨k + 1, by omega, by go_num, by rw [HT.out]; go_num⟩
    case measure => simp [intOf]; omega
  ·obtain rfl : k = 4 := by omega
   go_wp2
   go_ret
   exact ⟨Dp.ret_int (by rw [Dp.told_four]), rfl⟩
namespace Dp
theorem Row.coreMem {w : World} {g : Nat} {e : TypeId} {s : Cs} {mem : Value} (h : Row w g e (coreCells s mem)) (hl : s.regs.length = 8) : w.cell? ⟨g, 12, none⟩ = some mem := by
 rw [h.cell]; unfold coreCells
 rw [List.getElem?_append_right (by simp [wordCells]; omega)]
 simp [wordCells, hl]
end Dp
set_option maxRecDepth 100000 in
set_option maxHeartbeats 1000000 in
theorem progLoad {σ : Type} (M : Dp.Memo σ) (F : World → Nat → Prop) (Inv Inv' : World → σ → Prop) (Bad : World → Prop) (g : List PanicEntry) (T : TypeId) (x : Value) (s : Dp.Cs) (i : Dp.Ins) (p : Nat) (w : World) (m : σ) (hs : s.Ok) (hi : i.Ok) (hM : Dp.MemOk Tryz.prog p T x M F Inv Inv' Bad g) (hp : Dp.Row w p 137 (Dp.coreCells s (.iface T x))) (hI : Inv w m) :
  Calls Tryz.prog 141 #[.pointer (some ⟨p, 0, none⟩), .agg (Dp.pinsCells i).toArray] w fun e w' => Dp.after (M.load m (Dp.wrap (s.reg i.b + i.n))) (e = .panicked g ∧ Bad w') fun r => e = .returned (.int .i64 r.2.2) ∧ Dp.Row w' p 137 (Dp.coreCells (if r.2.2 ≠ 0 then s else Dp.putted s i r.2.1) (.iface T x)) ∧ Inv' w' r.1 := by
 have HV : Hid (IntKind.u32.wrap (s.reg i.b + Dp.wrap i.n) = Dp.wrap (s.reg i.b + i.n)) := by unfold Hid; rw [IntKind.wrap_u32]; unfold Dp.wrap; omega
 have hlt := hp.lt
 go_enter Tryz.func141, Tryz.ntmps141
 go_wp2_with (refine Dp.wpList_box_row rfl 179 _ rfl (Dp.pinsCells i) rfl ?_)
 intro w1 r1 z1 k1
 have hp1 := hp.keep k1 (fun e => e)
 have hkk := hM.keep hI (Dp.Keeps.mono (T := fun k => k = p) k1 (fun _ _ e => e.elim)).drew
 have HI1 := Hid.mk_ hkk.1
 have HF : Hid (¬ F w1.drew w.heap.size) := fun h => by have := (hM.foot hI (hkk.2 _ h)).1; omega
 have HP : Hid (¬ F w1.drew p) := fun h => (hM.foot hI (hkk.2 _ h)).2 rfl
 clear hkk
 have q0 : ∀ wx, Dp.Keeps (fun _ => False) w1 wx → wx.cell? ⟨w.heap.size, 0, none⟩ = some (.int .u32 i.op) := fun wx kx => ((r1.keep kx (fun e => e)).pins).1
 have q1 : ∀ wx, Dp.Keeps (fun _ => False) w1 wx → wx.cell? ⟨w.heap.size, 1, none⟩ = some (.int .u32 i.a) := fun wx kx => ((r1.keep kx (fun e => e)).pins).2.1
 have q2 : ∀ wx, Dp.Keeps (fun _ => False) w1 wx → wx.cell? ⟨w.heap.size, 2, none⟩ = some (.int .u32 i.b) := fun wx kx => ((r1.keep kx (fun e => e)).pins).2.2.1
 have q3 : ∀ wx, Dp.Keeps (fun _ => False) w1 wx → wx.cell? ⟨w.heap.size, 3, none⟩ = some (.int .u32 i.c) := fun wx kx => ((r1.keep kx (fun e => e)).pins).2.2.2.1
 have q4 : ∀ wx, Dp.Keeps (fun _ => False) w1 wx → wx.cell? ⟨w.heap.size, 4, none⟩ = some (.int .u32 (Dp.wrap i.n)) := fun wx kx => ((r1.keep kx (fun e => e)).pins).2.2.2.2
 have qa : ∀ wx, Dp.Keeps (fun _ => False) w1 wx → wx.cell? ⟨p, 4 + i.a.toNat, none⟩ = some (.int .u32 (s.reg i.a)) := fun wx kx => (hp1.keep kx (fun e => e)).coreReg hs.len i.a hi.a
 have qb : ∀ wx, Dp.Keeps (fun _ => False) w1 wx → wx.cell? ⟨p, 4 + i.b.toNat, none⟩ = some (.int .u32 (s.reg i.b)) := fun wx kx => (hp1.keep kx (fun e => e)).coreReg hs.len i.b hi.b
 have qm : ∀ wx, Dp.Keeps (fun _ => False) w1 wx → wx.cell? ⟨p, 12, none⟩ = some (.iface T x) := fun wx kx => (hp1.keep kx (fun e => e)).coreMem hs.len
 have hia := hi.a
 have hib := hi.b
 have ha := hs.reg i.a
 have hb := hs.reg i.b
 have hnw := Dp.wrap_word i.n
 unfold Dp.isWord at ha hb hnw
 have hS0 : Dp.Keeps (fun _ => False) w1 w1.drew := (Dp.Keeps.refl _ _).drew
 go_wp2
 refine Dp.wp_region_L (fun wx => Dp.Keeps (fun _ => False) w1 wx) 17 mixedP ?_
 refine' Dp.tj 0 hS0 ?_
 simp only [Act.put, Dp.tks]
 refine' Dp.tj 1 hS0 ?_
 simp only [Act.put, Dp.tks]
 refine' Dp.tj 2 hS0 ?_
 simp only [Act.put, Dp.tks]
 refine' Dp.tj 3 hS0 ?_
 simp only [Act.put, Dp.tks]
 refine' Dp.tj 4 hS0 ?_
 simp only [Act.put, Dp.tks]
 refine' Dp.tj 5 hS0 ?_
 simp only [Act.put, Dp.tks]
 refine' Dp.tj 6 hS0 ?_
 simp only [Act.put, Dp.tks]
 refine' Dp.tj 7 hS0 ?_
 simp only [Act.put, Dp.tks]
 refine' Dp.tj 8 hS0 ?_
 simp only [Act.put, Dp.tks]
 refine' Dp.tj 9 hS0 ?_
 simp only [Act.put, Dp.tks]
 refine' Dp.tj 10 hS0 ?_
 simp only [Act.put, Dp.tks]
 refine' Dp.tj 11 hS0 ?_
 simp only [Act.put, Dp.tks]
 refine' Dp.tj 12 hS0 ?_
 simp only [Act.put, Dp.tks]
 refine' Dp.tj 13 hS0 ?_
 simp only [Act.put, Dp.tks]
 refine' Dp.tj 14 hS0 ?_
 simp only [Act.put, Dp.tks]
 refine' Dp.tj 15 hS0 ?_
 simp only [Act.put, Dp.tks]
 refine' Dp.tj 16 hS0 ?_
 simp only [Act.put, Dp.tks]
 rw [HV.out]
 refine Dp.wpAnyL_one 17 rfl (by kernel_rfl) (by rfl) (fun K hK => ?_)
 obtain ⟨f, args, hm, hc⟩ := hM.load w1.drew m (Dp.wrap (s.reg i.b + i.n)) (Dp.wrap_word _) HI1.out
 refine Dp.wp_invoke _ _ "Load" rfl rfl T x rfl #[.int .u32 (Dp.wrap (s.reg i.b + i.n))] (by simp only [List.map_toArray, List.map_cons, List.map_nil]; rfl) f args hm (hc.mono ?_)
 clear hm hc f args
 intro e w2 h2
 cases hl : M.load m (Dp.wrap (s.reg i.b + i.n)) with
 | none =>
  rw [hl, Dp.after_none] at h2
  obtain ⟨rfl, hbad⟩ := h2
  exact ⟨rfl, by rw [hl]; exact ⟨rfl, hbad⟩⟩
 | some r =>
  rw [hl, Dp.after_some] at h2
  obtain ⟨rfl, hw, he, hI2, hk2⟩ := h2
  have HL := Hid.mk_ hl
  have hp2 := hp1.drew.keep hk2 HP.out
  have r2 := r1.drew.keep hk2 HF.out
  refine hK _ _ ⟨fun h => absurd h (Nat.lt_irrefl _), ?_⟩
  clear hK K
  simp only [Act.put, Dp.tks]
  refine Dp.wpAnyL_rest (by kernel_rfl) ?_
  refine' Dp.wpAny_pure 18 rfl (by kernel_rfl) (fun _ _ _ h => h) (.inl ⟨by rfl, ?hp18⟩) ?pest18
  case hp18 => intro wx; go_simp; try with_reducible rfl
  simp only [Act.put, Dp.tks]
  refine' Dp.wpAny_pure 19 rfl (by kernel_rfl) (fun _ _ _ h => h) (.inl ⟨by rfl, ?hp19⟩) ?pest19
  case hp19 => intro wx; go_simp; try with_reducible rfl
  simp only [Act.put, Dp.tks]
  refine' Dp.wpAny_pure 20 rfl (by kernel_rfl) (fun _ _ _ h => h) (.inl ⟨by rfl, ?hp20⟩) ?pest20
  case hp20 => intro wx; go_simp; try with_reducible rfl
  simp only [Act.put, Dp.tks]
  refine' Dp.wpAny_pure 21 rfl (by kernel_rfl) (fun _ _ _ h => h) (.inl ⟨by rfl, ?hp21⟩) ?pest21
  case hp21 => intro wx; go_simp; try with_reducible rfl
  simp only [Act.put, Dp.tks]
  refine' Dp.wpAny_pure 22 rfl (by kernel_rfl) (fun _ _ _ h => h) (.inl ⟨by rfl, ?hp22⟩) ?pest22
  case hp22 => intro wx; go_simp; try with_reducible rfl
  simp only [Act.put, Dp.tks]
  refine wpAny_done (by kernel_rfl) ?_ _
  obtain ⟨i0, i1, i2, i3, i4⟩ := r2.pins
  clear q0 q1 q2 q3 q4 qa qb qm hl
  have hr2 := hw
  unfold Dp.isWord at hr2
  by_cases hz : r.2.2 = 0
  ·go_wp2_with fail
   refine (progPut s (.iface T x) i _ p _ hs hi hp2).mono ?_
   rintro e w3 ⟨rfl, hr3, hk3⟩
   go_wp2
   go_ret
   rw [HL.out, Dp.after_some]
   exact ⟨by rw [hz]; rfl, by simp only [hz, ne_eq, not_true_eq_false, if_false]; exact hr3, hM.keep' hI2 hk3⟩
  ·go_wp2
   go_ret
   rw [HL.out, Dp.after_some]
   exact ⟨rfl, by simp only [hz, ne_eq, not_false_eq_true, if_true]; exact hp2, hI2⟩
set_option maxRecDepth 100000 in
set_option maxHeartbeats 1000000 in
theorem progStore {σ : Type} (M : Dp.Memo σ) (F : World → Nat → Prop) (Inv Inv' : World → σ → Prop) (Bad : World → Prop) (g : List PanicEntry) (T : TypeId) (x : Value) (s : Dp.Cs) (i : Dp.Ins) (p : Nat) (w : World) (m : σ) (hs : s.Ok) (hi : i.Ok) (hM : Dp.MemOk Tryz.prog p T x M F Inv Inv' Bad g) (hp : Dp.Row w p 137 (Dp.coreCells s (.iface T x))) (hI : Inv w m) :
  Calls Tryz.prog 142 #[.pointer (some ⟨p, 0, none⟩), .agg (Dp.pinsCells i).toArray] w fun e w' => Dp.after (M.store m (Dp.wrap (s.reg i.b + i.n)) (s.reg i.a)) (e = .panicked g ∧ Bad w') fun r => e = .returned (.int .i64 r.2) ∧ Dp.Row w' p 137 (Dp.coreCells (if r.2 ≠ 0 then s else { s with pc := Dp.wrap (s.pc + 1) }) (.iface T x)) ∧ Inv' w' r.1 := by
 have HV : Hid (IntKind.u32.wrap (s.reg i.b + Dp.wrap i.n) = Dp.wrap (s.reg i.b + i.n)) := by unfold Hid; rw [IntKind.wrap_u32]; unfold Dp.wrap; omega
 have hpc := hs.pc
 unfold Dp.isWord at hpc
 have hlt := hp.lt
 go_enter Tryz.func142, Tryz.ntmps142
 go_wp2_with (refine Dp.wpList_box_row rfl 179 _ rfl (Dp.pinsCells i) rfl ?_)
 intro w1 r1 z1 k1
 have hp1 := hp.keep k1 (fun e => e)
 have hkk := hM.keep hI (Dp.Keeps.mono (T := fun k => k = p) k1 (fun _ _ e => e.elim)).drew
 have HI1 := Hid.mk_ hkk.1
 have HF : Hid (¬ F w1.drew w.heap.size) := fun h => by have := (hM.foot hI (hkk.2 _ h)).1; omega
 have HP : Hid (¬ F w1.drew p) := fun h => (hM.foot hI (hkk.2 _ h)).2 rfl
 clear hkk
 have q0 : ∀ wx, Dp.Keeps (fun _ => False) w1 wx → wx.cell? ⟨w.heap.size, 0, none⟩ = some (.int .u32 i.op) := fun wx kx => ((r1.keep kx (fun e => e)).pins).1
 have q1 : ∀ wx, Dp.Keeps (fun _ => False) w1 wx → wx.cell? ⟨w.heap.size, 1, none⟩ = some (.int .u32 i.a) := fun wx kx => ((r1.keep kx (fun e => e)).pins).2.1
 have q2 : ∀ wx, Dp.Keeps (fun _ => False) w1 wx → wx.cell? ⟨w.heap.size, 2, none⟩ = some (.int .u32 i.b) := fun wx kx => ((r1.keep kx (fun e => e)).pins).2.2.1
 have q3 : ∀ wx, Dp.Keeps (fun _ => False) w1 wx → wx.cell? ⟨w.heap.size, 3, none⟩ = some (.int .u32 i.c) := fun wx kx => ((r1.keep kx (fun e => e)).pins).2.2.2.1
 have q4 : ∀ wx, Dp.Keeps (fun _ => False) w1 wx → wx.cell? ⟨w.heap.size, 4, none⟩ = some (.int .u32 (Dp.wrap i.n)) := fun wx kx => ((r1.keep kx (fun e => e)).pins).2.2.2.2
 have qa : ∀ wx, Dp.Keeps (fun _ => False) w1 wx → wx.cell? ⟨p, 4 + i.a.toNat, none⟩ = some (.int .u32 (s.reg i.a)) := fun wx kx => (hp1.keep kx (fun e => e)).coreReg hs.len i.a hi.a
 have qb : ∀ wx, Dp.Keeps (fun _ => False) w1 wx → wx.cell? ⟨p, 4 + i.b.toNat, none⟩ = some (.int .u32 (s.reg i.b)) := fun wx kx => (hp1.keep kx (fun e => e)).coreReg hs.len i.b hi.b
 have qm : ∀ wx, Dp.Keeps (fun _ => False) w1 wx → wx.cell? ⟨p, 12, none⟩ = some (.iface T x) := fun wx kx => (hp1.keep kx (fun e => e)).coreMem hs.len
 have hia := hi.a
 have hib := hi.b
 have ha := hs.reg i.a
 have hb := hs.reg i.b
 have hnw := Dp.wrap_word i.n
 unfold Dp.isWord at ha hb hnw
 have hS0 : Dp.Keeps (fun _ => False) w1 w1.drew := (Dp.Keeps.refl _ _).drew
 go_wp2
 refine Dp.wp_region_L (fun wx => Dp.Keeps (fun _ => False) w1 wx) 25 mixedP ?_
 refine' Dp.tj 0 hS0 ?_
 simp only [Act.put, Dp.tks]
 refine' Dp.tj 1 hS0 ?_
 simp only [Act.put, Dp.tks]
 refine' Dp.tj 2 hS0 ?_
 simp only [Act.put, Dp.tks]
 refine' Dp.tj 3 hS0 ?_
 simp only [Act.put, Dp.tks]
 refine' Dp.tj 4 hS0 ?_
 simp only [Act.put, Dp.tks]
 refine' Dp.tj 5 hS0 ?_
 simp only [Act.put, Dp.tks]
 refine' Dp.tj 6 hS0 ?_
 simp only [Act.put, Dp.tks]
 refine' Dp.tj 7 hS0 ?_
 simp only [Act.put, Dp.tks]
 refine' Dp.tj 8 hS0 ?_
 simp only [Act.put, Dp.tks]
 refine' Dp.tj 9 hS0 ?_
 simp only [Act.put, Dp.tks]
 refine' Dp.tj 10 hS0 ?_
 simp only [Act.put, Dp.tks]
 refine' Dp.tj 11 hS0 ?_
 simp only [Act.put, Dp.tks]
 refine' Dp.tj 12 hS0 ?_
 simp only [Act.put, Dp.tks]
 refine' Dp.tj 13 hS0 ?_
 simp only [Act.put, Dp.tks]
 refine' Dp.tj 14 hS0 ?_
 simp only [Act.put, Dp.tks]
 refine' Dp.tj 15 hS0 ?_
 simp only [Act.put, Dp.tks]
 refine' Dp.tj 16 hS0 ?_
 simp only [Act.put, Dp.tks]
 refine' Dp.tj 17 hS0 ?_
 simp only [Act.put, Dp.tks]
 refine' Dp.tj 18 hS0 ?_
 simp only [Act.put, Dp.tks]
 refine' Dp.tj 19 hS0 ?_
 simp only [Act.put, Dp.tks]
 refine' Dp.tj 20 hS0 ?_
 simp only [Act.put, Dp.tks]
 refine' Dp.tj 21 hS0 ?_
 simp only [Act.put, Dp.tks]
 refine' Dp.tj 22 hS0 ?_
 simp only [Act.put, Dp.tks]
 refine' Dp.tj 23 hS0 ?_
 simp only [Act.put, Dp.tks]
 refine' Dp.tj 24 hS0 ?_
 simp only [Act.put, Dp.tks]
 rw [HV.out]
 refine Dp.wpAnyL_one 25 rfl (by kernel_rfl) (by rfl) (fun K hK => ?_)
 obtain ⟨f, args, hm, hc⟩ := hM.store w1.drew m (Dp.wrap (s.reg i.b + i.n)) (s.reg i.a) (Dp.wrap_word _) (hs.reg i.a) HI1.out
 refine Dp.wp_invoke _ _ "Store" rfl rfl T x rfl #[.int .u32 (Dp.wrap (s.reg i.b + i.n)), .int .u32 (s.reg i.a)] (by simp only [List.map_toArray, List.map_cons, List.map_nil]; rfl) f args hm (hc.mono ?_)
 clear hm hc f args
 intro e w2 h2
 cases hl : M.store m (Dp.wrap (s.reg i.b + i.n)) (s.reg i.a) with
 | none =>
  rw [hl, Dp.after_none] at h2
  obtain ⟨rfl, hbad⟩ := h2
  exact ⟨rfl, by rw [hl]; exact ⟨rfl, hbad⟩⟩
 | some r =>
  rw [hl, Dp.after_some] at h2
  obtain ⟨rfl, he, hI2, hk2⟩ := h2
  have HL := Hid.mk_ hl
  have hp2 := hp1.drew.keep hk2 HP.out
  refine hK _ _ ⟨fun h => absurd h (Nat.lt_irrefl _), ?_⟩
  clear hK K
  simp only [Act.put, Dp.tks]
  refine Dp.wpAnyL_rest (by kernel_rfl) ?_
  refine' Dp.wpAny_pure 26 rfl (by kernel_rfl) (fun _ _ _ h => h) (.inl ⟨by rfl, ?hp26⟩) ?pest26
  case hp26 => intro wx; go_simp; try with_reducible rfl
  simp only [Act.put, Dp.tks]
  refine wpAny_done (by kernel_rfl) ?_ _
  clear q0 q1 q2 q3 q4 qa qb qm hl
  obtain ⟨c0, _, _, _⟩ := hp2.core
  have f0 := hp2.frozen 0
  have HR : Hid (Dp.Row (w2.setCell ⟨p, 0, none⟩ (.int .u32 (Dp.wrap (s.pc + 1)))) p 137 (Dp.coreCells { s with pc := Dp.wrap (s.pc + 1) } (.iface T x))) := hp2.set 0 _
  have HK : Hid (Dp.Keeps (fun k => k = p) w2 (w2.setCell ⟨p, 0, none⟩ (.int .u32 (Dp.wrap (s.pc + 1))))) := Dp.Keeps.setCell (S := fun k => k = p) (p := ⟨p, 0, none⟩) (Dp.Keeps.refl _ _) (.inr rfl) _
  by_cases hz : r.2 = 0
  ·go_wp2
   go_ret
   rw [HL.out, Dp.after_some]
   exact ⟨by rw [hz]; rfl, by simp only [hz, ne_eq, not_true_eq_false, if_false]; exact HR.out, hM.keep' hI2 HK.out⟩
  ·go_wp2
   go_ret
   rw [HL.out, Dp.after_some]
   exact ⟨rfl, by simp only [hz, ne_eq, not_false_eq_true, if_true]; exact hp2, hI2⟩
set_option maxRecDepth 100000 in
set_option maxHeartbeats 1000000 in
theorem progAsk {σ : Type} (M : Dp.Memo σ) (F : World → Nat → Prop) (Inv Inv' : World → σ → Prop) (Bad : World → Prop) (g : List PanicEntry) (T : TypeId) (x : Value) (s : Dp.Cs) (i : Dp.Ins) (p : Nat) (w : World) (m : σ) (hs : s.Ok) (hi : i.Ok) (hM : Dp.MemOk Tryz.prog p T x M F Inv Inv' Bad g) (hp : Dp.Row w p 137 (Dp.coreCells s (.iface T x))) (hI : Inv w m) :
  Calls Tryz.prog 147 #[.pointer (some ⟨p, 0, none⟩), .agg (Dp.pinsCells i).toArray] w fun e w' => Dp.after (M.source m (s.reg i.b)) (e = .panicked g ∧ Bad w') fun r => e = .returned (.int .i64 r.2.2) ∧ Dp.Row w' p 137 (Dp.coreCells (if r.2.2 ≠ 0 then s else Dp.putted s i (Dp.told r.2.1 (s.reg i.c))) (.iface T x)) ∧ Inv' w' r.1 := by
 have hlt := hp.lt
 go_enter Tryz.func147, Tryz.ntmps147
 go_wp2_with (refine Dp.wpList_box_row rfl 179 _ rfl (Dp.pinsCells i) rfl ?_)
 intro w1 r1 z1 k1
 have hp1 := hp.keep k1 (fun e => e)
 have hkk := hM.keep hI (Dp.Keeps.mono (T := fun k => k = p) k1 (fun _ _ e => e.elim)).drew
 have HI1 := Hid.mk_ hkk.1
 have HF : Hid (¬ F w1.drew w.heap.size) := fun h => by have := (hM.foot hI (hkk.2 _ h)).1; omega
 have HP : Hid (¬ F w1.drew p) := fun h => (hM.foot hI (hkk.2 _ h)).2 rfl
 clear hkk
 have q0 : ∀ wx, Dp.Keeps (fun _ => False) w1 wx → wx.cell? ⟨w.heap.size, 0, none⟩ = some (.int .u32 i.op) := fun wx kx => ((r1.keep kx (fun e => e)).pins).1
 have q1 : ∀ wx, Dp.Keeps (fun _ => False) w1 wx → wx.cell? ⟨w.heap.size, 1, none⟩ = some (.int .u32 i.a) := fun wx kx => ((r1.keep kx (fun e => e)).pins).2.1
 have q2 : ∀ wx, Dp.Keeps (fun _ => False) w1 wx → wx.cell? ⟨w.heap.size, 2, none⟩ = some (.int .u32 i.b) := fun wx kx => ((r1.keep kx (fun e => e)).pins).2.2.1
 have q3 : ∀ wx, Dp.Keeps (fun _ => False) w1 wx → wx.cell? ⟨w.heap.size, 3, none⟩ = some (.int .u32 i.c) := fun wx kx => ((r1.keep kx (fun e => e)).pins).2.2.2.1
 have q4 : ∀ wx, Dp.Keeps (fun _ => False) w1 wx → wx.cell? ⟨w.heap.size, 4, none⟩ = some (.int .u32 (Dp.wrap i.n)) := fun wx kx => ((r1.keep kx (fun e => e)).pins).2.2.2.2
 have qa : ∀ wx, Dp.Keeps (fun _ => False) w1 wx → wx.cell? ⟨p, 4 + i.a.toNat, none⟩ = some (.int .u32 (s.reg i.a)) := fun wx kx => (hp1.keep kx (fun e => e)).coreReg hs.len i.a hi.a
 have qb : ∀ wx, Dp.Keeps (fun _ => False) w1 wx → wx.cell? ⟨p, 4 + i.b.toNat, none⟩ = some (.int .u32 (s.reg i.b)) := fun wx kx => (hp1.keep kx (fun e => e)).coreReg hs.len i.b hi.b
 have qm : ∀ wx, Dp.Keeps (fun _ => False) w1 wx → wx.cell? ⟨p, 12, none⟩ = some (.iface T x) := fun wx kx => (hp1.keep kx (fun e => e)).coreMem hs.len
 have hia := hi.a
 have hib := hi.b
 have ha := hs.reg i.a
 have hb := hs.reg i.b
 have hnw := Dp.wrap_word i.n
 unfold Dp.isWord at ha hb hnw
 have hS0 : Dp.Keeps (fun _ => False) w1 w1.drew := (Dp.Keeps.refl _ _).drew
 go_wp2
 refine Dp.wp_region_L (fun wx => Dp.Keeps (fun _ => False) w1 wx) 14 mixedP ?_
 refine' Dp.tj 0 hS0 ?_
 simp only [Act.put, Dp.tks]
 refine' Dp.tj 1 hS0 ?_
 simp only [Act.put, Dp.tks]
 refine' Dp.tj 2 hS0 ?_
 simp only [Act.put, Dp.tks]
 refine' Dp.tj 3 hS0 ?_
 simp only [Act.put, Dp.tks]
 refine' Dp.tj 4 hS0 ?_
 simp only [Act.put, Dp.tks]
 refine' Dp.tj 5 hS0 ?_
 simp only [Act.put, Dp.tks]
 refine' Dp.tj 6 hS0 ?_
 simp only [Act.put, Dp.tks]
 refine' Dp.tj 7 hS0 ?_
 simp only [Act.put, Dp.tks]
 refine' Dp.tj 8 hS0 ?_
 simp only [Act.put, Dp.tks]
 refine' Dp.tj 9 hS0 ?_
 simp only [Act.put, Dp.tks]
 refine' Dp.tj 10 hS0 ?_
 simp only [Act.put, Dp.tks]
 refine' Dp.tj 11 hS0 ?_
 simp only [Act.put, Dp.tks]
 refine' Dp.tj 12 hS0 ?_
 simp only [Act.put, Dp.tks]
 refine' Dp.tj 13 hS0 ?_
 simp only [Act.put, Dp.tks]
 refine Dp.wpAnyL_one 14 rfl (by kernel_rfl) (by rfl) (fun K hK => ?_)
 obtain ⟨f, args, hm, hc⟩ := hM.source w1.drew m (s.reg i.b) (hs.reg i.b) HI1.out
 refine Dp.wp_invoke _ _ "Source" rfl rfl T x rfl #[.int .u32 (s.reg i.b)] (by simp only [List.map_toArray, List.map_cons, List.map_nil]; rfl) f args hm (hc.mono ?_)
 clear hm hc f args
 intro e w2 h2
 cases hl : M.source m (s.reg i.b) with
 | none =>
  rw [hl, Dp.after_none] at h2
  obtain ⟨rfl, hbad⟩ := h2
  exact ⟨rfl, by rw [hl]; exact ⟨rfl, hbad⟩⟩
 | some r =>
  rw [hl, Dp.after_some] at h2
  obtain ⟨⟨v, rfl, hv⟩, he, hI2, hk2⟩ := h2
  have HL := Hid.mk_ hl
  have hp2 := hp1.drew.keep hk2 HP.out
  have r2 := r1.drew.keep hk2 HF.out
  have HB := Hid.mk_ hv
  obtain ⟨vb, vo, vad, vcap, ev, _, _, _⟩ := hv
  have EV := Hid.mk_ ev
  rw [ev] at HB ⊢
  clear ev EV
  refine hK _ _ ⟨fun h => absurd h (Nat.lt_irrefl _), ?_⟩
  clear hK K
  simp only [Act.put, Dp.tks]
  refine Dp.wpAnyL_rest (by kernel_rfl) ?_
  refine' Dp.wpAny_pure 15 rfl (by kernel_rfl) (fun _ _ _ h => h) (.inl ⟨by rfl, ?hp15⟩) ?pest15
  case hp15 => intro wx; go_simp; try with_reducible rfl
  simp only [Act.put, Dp.tks]
  refine' Dp.wpAny_pure 16 rfl (by kernel_rfl) (fun _ _ _ h => h) (.inl ⟨by rfl, ?hp16⟩) ?pest16
  case hp16 => intro wx; go_simp; try with_reducible rfl
  simp only [Act.put, Dp.tks]
  refine' Dp.wpAny_pure 17 rfl (by kernel_rfl) (fun _ _ _ h => h) (.inl ⟨by rfl, ?hp17⟩) ?pest17
  case hp17 => intro wx; go_simp; try with_reducible rfl
  simp only [Act.put, Dp.tks]
  refine' Dp.wpAny_pure 18 rfl (by kernel_rfl) (fun _ _ _ h => h) (.inl ⟨by rfl, ?hp18⟩) ?pest18
  case hp18 => intro wx; go_simp; try with_reducible rfl
  simp only [Act.put, Dp.tks]
  refine' Dp.wpAny_pure 19 rfl (by kernel_rfl) (fun _ _ _ h => h) (.inl ⟨by rfl, ?hp19⟩) ?pest19
  case hp19 => intro wx; go_simp; try with_reducible rfl
  simp only [Act.put, Dp.tks]
  refine wpAny_done (by kernel_rfl) ?_ _
  clear q0 q1 q2 q3 q4 qa qb qm hl hS0
  by_cases hz : r.2.2 = 0
  ·rw [hz]
   have q0 : ∀ wx, Dp.Keeps (fun _ => False) w2 wx → wx.cell? ⟨w.heap.size, 0, none⟩ = some (.int .u32 i.op) := fun wx kx => ((r2.keep kx (fun e => e)).pins).1
   have q1 : ∀ wx, Dp.Keeps (fun _ => False) w2 wx → wx.cell? ⟨w.heap.size, 1, none⟩ = some (.int .u32 i.a) := fun wx kx => ((r2.keep kx (fun e => e)).pins).2.1
   have q2 : ∀ wx, Dp.Keeps (fun _ => False) w2 wx → wx.cell? ⟨w.heap.size, 2, none⟩ = some (.int .u32 i.b) := fun wx kx => ((r2.keep kx (fun e => e)).pins).2.2.1
   have q3 : ∀ wx, Dp.Keeps (fun _ => False) w2 wx → wx.cell? ⟨w.heap.size, 3, none⟩ = some (.int .u32 i.c) := fun wx kx => ((r2.keep kx (fun e => e)).pins).2.2.2.1
   have q4 : ∀ wx, Dp.Keeps (fun _ => False) w2 wx → wx.cell? ⟨w.heap.size, 4, none⟩ = some (.int .u32 (Dp.wrap i.n)) := fun wx kx => ((r2.keep kx (fun e => e)).pins).2.2.2.2
   have qc : ∀ wx, Dp.Keeps (fun _ => False) w2 wx → wx.cell? ⟨p, 4 + i.c.toNat, none⟩ = some (.int .u32 (s.reg i.c)) := fun wx kx => (hp2.keep kx (fun e => e)).coreReg hs.len i.c hi.c
   have hic := hi.c
   have hS0 : Dp.Keeps (fun _ => False) w2 w2.drew := (Dp.Keeps.refl _ _).drew
   go_wp2
   refine Dp.wp_region_L (fun wx => Dp.Keeps (fun _ => False) w2 wx) 12 mixedP ?_
   refine' Dp.tj 0 hS0 ?_
   simp only [Act.put, Dp.tks]
   refine' Dp.tj 1 hS0 ?_
   simp only [Act.put, Dp.tks]
   refine' Dp.tj 2 hS0 ?_
   simp only [Act.put, Dp.tks]
   refine' Dp.tj 3 hS0 ?_
   simp only [Act.put, Dp.tks]
   refine' Dp.tj 4 hS0 ?_
   simp only [Act.put, Dp.tks]
   refine' Dp.tj 5 hS0 ?_
   simp only [Act.put, Dp.tks]
   refine' Dp.tj 6 hS0 ?_
   simp only [Act.put, Dp.tks]
   refine' Dp.tj 7 hS0 ?_
   simp only [Act.put, Dp.tks]
   refine' Dp.tj 8 hS0 ?_
   simp only [Act.put, Dp.tks]
   refine' Dp.tj 9 hS0 ?_
   simp only [Act.put, Dp.tks]
   refine' Dp.tj 10 hS0 ?_
   simp only [Act.put, Dp.tks]
   refine Dp.wpAnyL_one 11 rfl (by kernel_rfl) (by rfl) (fun K hK => ?_)
   go_simp
   refine (progWordAt _ r.2.1 (s.reg i.c) w2.drew HB.out (hs.reg i.c)).mono ?_
   rintro e w' ⟨rfl, rfl⟩
   refine hK _ _ ⟨fun _ => hS0, ?_⟩
   clear hK K
   refine Dp.wpAnyL_one 12 rfl (by kernel_rfl) (by rfl) (fun K hK => ?_)
   go_simp
   refine (progPut s (.iface T x) i _ p _ hs hi hp2.drew).mono ?_
   rintro e w3 ⟨rfl, hr3, hk3⟩
   refine hK _ _ ⟨fun h => absurd h (Nat.lt_irrefl _), ?_⟩
   clear hK K
   refine Dp.wpAnyL_one 13 rfl (by kernel_rfl) (by rfl) (fun K hK => ?_)
   go_simp
   refine hK _ _ ⟨fun h => absurd h (by decide), ?_⟩
   clear hK K
   refine Dp.wpAnyL_done (by kernel_rfl) ?_ _
   go_wp2
   go_ret
   rw [HL.out, Dp.after_some]
   exact ⟨by rw [hz]; rfl, by simp only [hz, ne_eq, not_true_eq_false, if_false]; exact hr3, hM.keep' hI2 ((Dp.Keeps.refl _ _).drew.next hk3 (fun _ _ e => e))⟩
  ·go_wp2
   go_ret
   rw [HL.out, Dp.after_some]
   exact ⟨rfl, by simp only [hz, ne_eq, not_false_eq_true, if_true]; exact hp2, hI2⟩
end Go.Proofs.YtdipojfngdceoaaGreatDoor
