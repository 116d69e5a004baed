/- Steps on the way: ProgDigest, ProgLeaf, ProgCore, ProgCells. -/
import Derived.Test.YtdipojfngdceoaaGreatDoorShQ01
import Derived.Test.YtdipojfngdceoaaGreatDoorShQ02
import Derived.Test.YtdipojfngdceoaaGreatDoorShQ03
import Derived.Test.YtdipojfngdceoaaGreatDoorProg
import Derived.WalkKit
import Derived.WalkSpells
import Derived.WalkLawsBesides
import Derived.BigQuiet
import Derived.Deep.QuietTactic
namespace Go.Proofs.YtdipojfngdceoaaGreatDoor
open Go.RowKit
namespace Dp
theorem byteOf_nat (n : Int) (h : 0 ≤ n ∧ n < 256) : ((byteOf n).toNat : Int) = n := by
 obtain ⟨k, rfl⟩ := Int.eq_ofNat_of_zero_le h.1
 simp [byteOf]; omega
theorem vals_two (n : Int) : vals (two n) = [.int .u8 (n / 256 % 256), .int .u8 (n % 256)] := by
 simp only [vals, two, List.map_cons, List.map_nil, byteOf_nat (n / 256 % 256) (by omega), byteOf_nat (n % 256) (by omega)]
theorem vals_four (n : Int) : vals (four n) = [.int .u8 (n / 16777216 % 256), .int .u8 (n / 65536 % 256), .int .u8 (n / 256 % 256), .int .u8 (n % 256)] := by
 have h1 : vals (four n) = vals (two (n / 65536)) ++ vals (two (n % 65536)) := by simp [vals, four]
 rw [h1, vals_two, vals_two]
 have e1 : n / 65536 / 256 % 256 = n / 16777216 % 256 := by omega
 have e2 : n % 65536 / 256 % 256 = n / 256 % 256 := by omega
 have e3 : n % 65536 % 256 = n % 256 := by omega
 rw [e1, e2, e3]; rfl
theorem vals_length (l : List UInt8) : (vals l).length = l.length := by simp [vals]
theorem bytes_row {w : World} {g : Nat} {e : TypeId} {l : List UInt8} (h : Row w g e (vals l)) (hl : l.length ≤ maxLen) (cap : Nat) : Bytes w (.slice (some ⟨g, 0, none⟩) l.length cap) l := by
 refine ⟨g, 0, some ⟨g, 0, none⟩, cap, rfl, hl, fun _ => rfl, fun j hj => ?_⟩
 rw [h.cell]
 simp [vals, hj]
theorem cell_lt {w : World} {p : Addr} {v : Value} (h : w.cell? p = some v) : p.block < w.heap.size := by
 rcases Nat.lt_or_ge p.block w.heap.size with h1 | h1
 ·exact h1
 ·unfold World.cell? at h
  rw [Array.getElem?_eq_none h1] at h
  simp at h
theorem Bytes.still {w w' : World} {v : Value} {l : List UInt8} (h : Bytes w v l) (k : Keeps (fun _ => False) w w') : Bytes w' v l := by
 obtain ⟨b, o, ad, cap, h1, h2, h3, h4⟩ := h
 exact ⟨b, o, ad, cap, h1, h2, h3, fun j hj => (k.cell (p := ⟨b, o + j, none⟩) (cell_lt (h4 j hj)) (fun e => e)).trans (h4 j hj)⟩
theorem parts_just {w : World} {a : Value} {e : TypeId} {la : List UInt8} (ha : Bytes w a la) : Parts (w.alloc (.cells #[a] e)) (.slice (some ⟨w.heap.size, 0, none⟩) 1 1) [la] := by
 have k := (Keeps.refl (fun _ => False) w).alloc (.cells #[a] e)
 have r := Row.allocNew w e [a]
 refine ⟨w.heap.size, 0, some ⟨w.heap.size, 0, none⟩, 1, rfl, by simp [maxLen], fun _ => rfl, fun i hi => ?_⟩
 match i, hi with
 | 0, _ => exact ⟨a, r.cell 0, ha.still k⟩
def cellText (n : Int) : List UInt8 := 0 :: four n
def halvesText (m n : Int) : List UInt8 := 1 :: (two m ++ two n)
theorem vals_cellText (n : Int) : vals (cellText n) = [.int .u8 0, .int .u8 (n / 16777216 % 256), .int .u8 (n / 65536 % 256), .int .u8 (n / 256 % 256), .int .u8 (n % 256)] := by
 have h := vals_four n
 unfold vals at h ⊢
 unfold cellText
 rw [List.map_cons, h]; rfl
theorem vals_halvesText (m n : Int) : vals (halvesText m n) = [.int .u8 1, .int .u8 (m / 256 % 256), .int .u8 (m % 256), .int .u8 (n / 256 % 256), .int .u8 (n % 256)] := by
 have h1 := vals_two m
 have h2 := vals_two n
 unfold vals at h1 h2 ⊢
 unfold halvesText
 rw [List.map_cons, List.map_append, h1, h2]; rfl
end Dp
set_option maxRecDepth 100000 in
set_option maxHeartbeats 400000 in
theorem progWord (n : Int) (w : World) (h : Dp.isWord n) :
  Calls Tryz.prog 102 #[.int .u32 n] w fun e w' => e = .returned (.slice (some ⟨w.heap.size, 0, none⟩) 4 4) ∧ Dp.Row w' w.heap.size 5 (Dp.vals (Dp.four n)) ∧ w'.heap.size = w.heap.size + 1 ∧ Dp.Keeps (fun _ => False) w w' := by
 unfold Dp.isWord at h
 have HV := Hid.mk_ (Dp.vals_four n)
 go_enter Tryz.func102, Tryz.ntmps102
 go_wp2
 go_ret
 refine ⟨rfl, ?_, by simp, (Dp.Keeps.refl _ _).alloc _⟩
 rw [HV.out, show n / 16777216 % 256 = n / 16777216 by omega]
 exact Dp.Row.allocNew w 5 _
set_option maxRecDepth 100000 in
set_option maxHeartbeats 400000 in
theorem progTwo (n : Int) (w : World) (h : 0 ≤ n ∧ n < 65536) :
  Calls Tryz.prog 104 #[.int .i64 n] w fun e w' => e = .returned (.slice (some ⟨w.heap.size, 0, none⟩) 2 2) ∧ Dp.Row w' w.heap.size 5 (Dp.vals (Dp.two n)) ∧ w'.heap.size = w.heap.size + 1 ∧ Dp.Keeps (fun _ => False) w w' := by
 have HV := Hid.mk_ (Dp.vals_two n)
 go_enter Tryz.func104, Tryz.ntmps104
 go_wp2
 go_ret
 refine ⟨rfl, ?_, by simp, (Dp.Keeps.refl _ _).alloc _⟩
 rw [HV.out, show n / 256 % 256 = n / 256 by omega]
 exact Dp.Row.allocNew w 5 _
set_option maxRecDepth 100000 in
set_option maxHeartbeats 400000 in
theorem progCellText (n : Int) (w : World) (h : Dp.isWord n) :
  Calls Tryz.prog 125 #[.int .u32 n] w fun e w' => e = .returned (.slice (some ⟨w.heap.size + 1, 0, none⟩) 5 5) ∧ Dp.Row w' (w.heap.size + 1) 5 (Dp.vals (Dp.cellText n)) ∧ w'.heap.size = w.heap.size + 2 ∧ Dp.Keeps (fun _ => False) w w' := by
 have HV := Hid.mk_ (Dp.vals_cellText n)
 go_enter Tryz.func125, Tryz.ntmps125
 go_wp2_with fail
 refine (progWord n _ h).mono ?_
 rintro e w1 ⟨rfl, r1, z1, k1⟩
 rw [Dp.vals_four] at r1
 have c0 := r1.cell 0
 have c1 := r1.cell 1
 have c2 := r1.cell 2
 have c3 := r1.cell 3
 simp only [List.getElem?_cons_zero, List.getElem?_cons_succ] at c0 c1 c2 c3
 go_wp2
 go_region
 go_wp2
 go_ret
 refine ⟨rfl, ?_, by simp [World.drew, z1], (k1.alloc _).drew⟩
 rw [HV.out]
 have hr := Dp.Row.allocNew w1 5 [.int .u8 0, .int .u8 (n / 16777216 % 256), .int .u8 (n / 65536 % 256), .int .u8 (n / 256 % 256), .int .u8 (n % 256)]
 rw [z1] at hr
 exact hr.drew
set_option maxRecDepth 100000 in
set_option maxHeartbeats 400000 in
theorem progHalvesText (m n : Int) (w : World) (hm : 0 ≤ m ∧ m < 65536) (hn : 0 ≤ n ∧ n < 65536) :
  Calls Tryz.prog 126 #[.int .i64 m, .int .i64 n] w fun e w' => e = .returned (.slice (some ⟨w.heap.size + 2, 0, none⟩) 5 5) ∧ Dp.Row w' (w.heap.size + 2) 5 (Dp.vals (Dp.halvesText m n)) ∧ w'.heap.size = w.heap.size + 3 ∧ Dp.Keeps (fun _ => False) w w' := by
 have HV := Hid.mk_ (Dp.vals_halvesText m n)
 go_enter Tryz.func126, Tryz.ntmps126
 go_wp2_with fail
 refine (progTwo m _ hm).mono ?_
 rintro e w1 ⟨rfl, r1, z1, k1⟩
 go_wp2_with fail
 refine (progTwo n _ hn).mono ?_
 rintro e w2 ⟨rfl, r2, z2, k2⟩
 rw [z1] at r2 z2 ⊢
 rw [Dp.vals_two] at r1 r2
 have r1 := r1.keep k2 (fun e => e)
 have c0 := r1.cell 0
 have c1 := r1.cell 1
 have c2 := r2.cell 0
 have c3 := r2.cell 1
 simp only [List.getElem?_cons_zero, List.getElem?_cons_succ] at c0 c1 c2 c3
 go_wp2
 go_region
 go_wp2
 go_ret
 refine ⟨rfl, ?_, by simp [World.drew, z2], ((k1.trans k2).alloc _).drew⟩
 rw [HV.out]
 have hr := Dp.Row.allocNew w2 5 [.int .u8 1, .int .u8 (m / 256 % 256), .int .u8 (m % 256), .int .u8 (n / 256 % 256), .int .u8 (n % 256)]
 rw [z2] at hr
 exact hr.drew
set_option maxRecDepth 100000 in
set_option maxHeartbeats 400000 in
theorem progDCell (n : Int) (w : World) (h : Dp.isWord n) :
  Calls Tryz.prog 105 #[.int .u32 n] w fun e w' => e = .returned (.int .i64 (Dp.sum (0 :: Dp.four n))) ∧ Dp.Keeps (fun _ => False) w w' := by
 go_enter Tryz.func105, Tryz.ntmps105
 go_wp2_with fail
 refine (progCellText n _ h).mono ?_
 rintro e w1 ⟨rfl, r1, z1, k1⟩
 have b1 : Dp.Bytes w1 (.slice (some ⟨w.heap.size + 1, 0, none⟩) 5 5) (Dp.cellText n) := Dp.bytes_row r1 (by simp [maxLen, Dp.cellText, Dp.four_length]) 5
 go_wp2_with fail
 have hpt := Dp.parts_just (e := 47) b1
 rw [z1] at hpt
 refine (digSum _ _ _ hpt).mono ?_
 rintro e w2 ⟨rfl, rfl⟩
 go_wp2
 go_ret
 exact ⟨Dp.ret_int (by simp [Dp.cellText]), k1.alloc _⟩
set_option maxRecDepth 100000 in
set_option maxHeartbeats 400000 in
theorem progHalves (m n : Int) (w : World) (hm : 0 ≤ m ∧ m < 65536) (hn : 0 ≤ n ∧ n < 65536) :
  Calls Tryz.prog 106 #[.int .i64 m, .int .i64 n] w fun e w' => e = .returned (.int .i64 (Dp.sum (1 :: (Dp.two m ++ Dp.two n)))) ∧ Dp.Keeps (fun _ => False) w w' := by
 go_enter Tryz.func106, Tryz.ntmps106
 go_wp2_with fail
 refine (progHalvesText m n _ hm hn).mono ?_
 rintro e w1 ⟨rfl, r1, z1, k1⟩
 have b1 : Dp.Bytes w1 (.slice (some ⟨w.heap.size + 2, 0, none⟩) 5 5) (Dp.halvesText m n) := Dp.bytes_row r1 (by simp [maxLen, Dp.halvesText, Dp.two_length]) 5
 go_wp2_with fail
 have hpt := Dp.parts_just (e := 47) b1
 rw [z1] at hpt
 refine (digSum _ _ _ hpt).mono ?_
 rintro e w2 ⟨rfl, rfl⟩
 go_wp2
 go_ret
 exact ⟨Dp.ret_int (by simp [Dp.halvesText]), k1.alloc _⟩
namespace Dp
theorem bits_u32_nat (a b : Nat) (ha : a < 4294967296) (hb : b < 4294967296) :
  Go.bits .and .u32 (a : Int) (b : Int) = ((a &&& b : Nat) : Int) ∧ Go.bits .or .u32 (a : Int) (b : Int) = ((a ||| b : Nat) : Int) ∧ Go.bits .xor .u32 (a : Int) (b : Int) = ((a ^^^ b : Nat) : Int) := by
 have h1 : a &&& b < 2 ^ 32 := Nat.lt_of_le_of_lt Nat.and_le_left (by omega)
 have h2 : a ||| b < 2 ^ 32 := Nat.or_lt_two_pow (by omega) (by omega)
 have h3 : a ^^^ b < 2 ^ 32 := Nat.xor_lt_two_pow (by omega) (by omega)
 have ea : (BitVec.ofInt 32 (a : Int)).toNat = a := by simp; omega
 have eb : (BitVec.ofInt 32 (b : Int)).toNat = b := by simp; omega
 refine ⟨?_, ?_, ?_⟩
 ·show IntKind.u32.wrap ((BitVec.ofInt 32 (a : Int) &&& BitVec.ofInt 32 (b : Int)).toNat : Int) = _
  rw [BitVec.toNat_and, ea, eb]; exact IntWalk.u32_in _ (by omega)
 ·show IntKind.u32.wrap ((BitVec.ofInt 32 (a : Int) ||| BitVec.ofInt 32 (b : Int)).toNat : Int) = _
  rw [BitVec.toNat_or, ea, eb]; exact IntWalk.u32_in _ (by omega)
 ·show IntKind.u32.wrap ((BitVec.ofInt 32 (a : Int) ^^^ BitVec.ofInt 32 (b : Int)).toNat : Int) = _
  rw [BitVec.toNat_xor, ea, eb]; exact IntWalk.u32_in _ (by omega)
theorem and7 (x : Int) (h : 0 ≤ x ∧ x < 4294967296) : Go.bits .and .u32 x 7 = x % 8 := by
 obtain ⟨k, rfl⟩ := Int.eq_ofNat_of_zero_le h.1
 have := (bits_u32_nat k 7 (by omega) (by omega)).1
 rw [show ((7 : Nat) : Int) = 7 from rfl] at this
 rw [this]
 have e : k &&& 7 = k % 8 := Nat.and_two_pow_sub_one_eq_mod k 3
 rw [e]; rfl
end Dp
set_option maxHeartbeats 400000 in
theorem progOne (b : Bool) (w : World) :
  Calls Tryz.prog 103 #[.bool b] w fun e w' => e = .returned (.int .u32 (Dp.one b)) ∧ w' = w := by
 cases b with
 | true =>
  go_enter Tryz.func103, Tryz.ntmps103
  go_wp2
  go_ret
  exact ⟨rfl, rfl⟩
 | false =>
  go_enter Tryz.func103, Tryz.ntmps103
  go_wp2
  go_ret
  exact ⟨rfl, rfl⟩
set_option maxHeartbeats 400000 in
theorem progDecode (n : Int) (w : World) (h : Dp.isWord n) :
  Calls Tryz.prog 119 #[.int .u32 n] w fun e w' => e = .returned (.agg #[.int .u32 (Dp.decode n).op, .int .u32 (Dp.decode n).a, .int .u32 (Dp.decode n).b, .int .u32 (Dp.decode n).c, .int .u32 (Dp.wrap (Dp.decode n).n)]) ∧ Dp.Keeps (fun _ => False) w w' := by
 unfold Dp.isWord at h
 have HB : Hid (Go.bits .and .u32 (n / 8388608) 7 = (Dp.decode n).a ∧ Go.bits .and .u32 (n / 1048576) 7 = (Dp.decode n).b ∧ Go.bits .and .u32 (n / 131072) 7 = (Dp.decode n).c ∧ n / 67108864 = (Dp.decode n).op ∧ wrap32 (n * 32768 % 4294967296) / 32768 % 4294967296 = Dp.wrap (Dp.decode n).n) := by
  refine ⟨Dp.and7 _ (by omega), Dp.and7 _ (by omega), Dp.and7 _ (by omega), rfl, ?_⟩
  show wrap32 (n * 32768 % 4294967296) / 32768 % 4294967296 = (if n % 131072 ≥ 65536 then n % 131072 - 131072 else n % 131072) % 4294967296
  unfold wrap32
  split <;> omega
 go_enter Tryz.func119, Tryz.ntmps119
 go_wp2
 obtain ⟨ha, hb, hc, ho, hn⟩ := HB.out
 rw [ha, hb, hc, ho, hn]
 refine bodyPost_ret (v := .agg #[.int .u32 (Dp.decode n).op, .int .u32 (Dp.decode n).a, .int .u32 (Dp.decode n).b, .int .u32 (Dp.decode n).c, .int .u32 (Dp.wrap (Dp.decode n).n)]) (by simp [results, Tryz.results119, go_sem]) rfl ⟨rfl, ?_⟩
 exact (Dp.Keeps.refl _ _).alloc _
namespace Dp
def wordCells (l : List Int) : List Value := l.map (Value.int .u32)
def coreCells (s : Cs) (mem : Value) : List Value := [.int .u32 s.pc, .int .u32 s.steps, .int .u32 s.code, .bool s.over] ++ wordCells s.regs ++ [mem]
def pinsCells (i : Ins) : List Value := [.int .u32 i.op, .int .u32 i.a, .int .u32 i.b, .int .u32 i.c, .int .u32 (wrap i.n)]
theorem coreCells_reg (s : Cs) (mem : Value) (hl : s.regs.length = 8) (i : Int) (hi : 0 ≤ i ∧ i < 8) : (coreCells s mem)[4 + i.toNat]? = some (.int .u32 (s.reg i)) := by
 have h : i.toNat < s.regs.length := by omega
 unfold coreCells
 rw [List.append_assoc, List.getElem?_append_right (by simp), List.getElem?_append_left (by simp [wordCells]; omega)]
 simp [wordCells, Cs.reg, h]
theorem coreCells_put (s : Cs) (mem : Value) (hl : s.regs.length = 8) (i v : Int) (hi : 0 ≤ i ∧ i < 8) : (coreCells s mem).set (4 + i.toNat) (.int .u32 v) = coreCells (s.put i v) mem := by
 have h : i.toNat < s.regs.length := by omega
 unfold coreCells
 rw [List.append_assoc, List.set_append_right _ _ (by simp), List.set_append_left _ _ (by simp [wordCells]; omega)]
 simp [wordCells, Cs.put, List.map_set]
theorem Row.core {w : World} {g : Nat} {e : TypeId} {s : Cs} {mem : Value} (h : Row w g e (coreCells s mem)) : w.cell? ⟨g, 0, none⟩ = some (.int .u32 s.pc) ∧ w.cell? ⟨g, 1, none⟩ = some (.int .u32 s.steps) ∧ w.cell? ⟨g, 2, none⟩ = some (.int .u32 s.code) ∧ w.cell? ⟨g, 3, none⟩ = some (.bool s.over) := by
 refine ⟨?_, ?_, ?_, ?_⟩ <;> (rw [h.cell]; rfl)
theorem Row.coreReg {w : World} {g : Nat} {e : TypeId} {s : Cs} {mem : Value} (h : Row w g e (coreCells s mem)) (hl : s.regs.length = 8) (i : Int) (hi : 0 ≤ i ∧ i < 8) : w.cell? ⟨g, 4 + i.toNat, none⟩ = some (.int .u32 (s.reg i)) := by
 rw [h.cell]; exact coreCells_reg s mem hl i hi
theorem Row.pins {w : World} {g : Nat} {e : TypeId} {i : Ins} (h : Row w g e (pinsCells i)) : w.cell? ⟨g, 0, none⟩ = some (.int .u32 i.op) ∧ w.cell? ⟨g, 1, none⟩ = some (.int .u32 i.a) ∧ w.cell? ⟨g, 2, none⟩ = some (.int .u32 i.b) ∧ w.cell? ⟨g, 3, none⟩ = some (.int .u32 i.c) ∧ w.cell? ⟨g, 4, none⟩ = some (.int .u32 (wrap i.n)) := by
 refine ⟨?_, ?_, ?_, ?_, ?_⟩ <;> (rw [h.cell]; rfl)
end Dp
set_option maxRecDepth 100000 in
set_option maxHeartbeats 1000000 in
theorem progPut (s : Dp.Cs) (mem : Value) (i : Dp.Ins) (v : Int) (p : Nat) (w : World) (hs : s.Ok) (hi : i.Ok) (hp : Dp.Row w p 137 (Dp.coreCells s mem)) :
  Calls Tryz.prog 151 #[.pointer (some ⟨p, 0, none⟩), .agg (Dp.pinsCells i).toArray, .int .u32 v] w fun e w' => e = .returned (.int .i64 0) ∧ Dp.Row w' p 137 (Dp.coreCells (Dp.putted s i v) mem) ∧ Dp.Keeps (fun k => k = p) w w' := by
 have hpc := hs.pc
 unfold Dp.isWord at hpc
 have hlt := hp.lt
 go_enter Tryz.func151, Tryz.ntmps151
 go_wp2_with (refine Dp.wpList_box_row rfl 179 _ rfl (Dp.pinsCells i) rfl ?_)
 intro w1 r1 z1 k1
 have hp1 := hp.keep k1 (fun e => e)
 obtain ⟨_, ia, _, _, _⟩ := r1.pins
 obtain ⟨c0, _, _, _⟩ := hp1.core
 have cr := hp1.coreReg hs.len i.a hi.a
 have f0 := hp1.frozen 0
 have fr := hp1.frozen (4 + i.a.toNat)
 have hia := hi.a
 have HR : Hid (Dp.Row ((w1.setCell ⟨p, 4 + i.a.toNat, none⟩ (.int .u32 v)).setCell ⟨p, 0, none⟩ (.int .u32 (Dp.wrap (s.pc + 1)))) p 137 (Dp.coreCells (Dp.putted s i v) mem)) := by
  have h := (hp1.set (4 + i.a.toNat) (.int .u32 v))
  rw [Dp.coreCells_put s mem hs.len i.a v hi.a] at h
  exact h.set 0 (.int .u32 (Dp.wrap (s.pc + 1)))
 have HK : Hid (Dp.Keeps (fun k => k = p) w ((w1.setCell ⟨p, 4 + i.a.toNat, none⟩ (.int .u32 v)).setCell ⟨p, 0, none⟩ (.int .u32 (Dp.wrap (s.pc + 1))))) :=
  (Dp.Keeps.setCell (p := ⟨p, 4 + i.a.toNat, none⟩) (Dp.Keeps.mono (T := fun k => k = p) k1 (fun _ _ e => e.elim)) (.inr rfl) _).setCell (p := ⟨p, 0, none⟩) (.inr rfl) _
 have hne : p ≠ w.heap.size := by omega
 clear hp hp1 r1 k1
 go_wp2
 go_region
 go_wp2
 go_ret
 exact ⟨rfl, HR.out.drew, HK.out.drew⟩
set_option maxRecDepth 100000 in
set_option maxHeartbeats 1000000 in
theorem progJump (s : Dp.Cs) (mem : Value) (i : Dp.Ins) (b : Bool) (p : Nat) (w : World) (hs : s.Ok) (hp : Dp.Row w p 137 (Dp.coreCells s mem)) :
  Calls Tryz.prog 152 #[.pointer (some ⟨p, 0, none⟩), .agg (Dp.pinsCells i).toArray, .bool b] w fun e w' => e = .returned (.int .i64 0) ∧ Dp.Row w' p 137 (Dp.coreCells (Dp.jumped s i b) mem) ∧ Dp.Keeps (fun k => k = p) w w' := by
 have hpc := hs.pc
 unfold Dp.isWord at hpc
 have hlt := hp.lt
 go_enter Tryz.func152, Tryz.ntmps152
 go_wp2_with (refine Dp.wpList_box_row rfl 179 _ rfl (Dp.pinsCells i) rfl ?_)
 intro w1 r1 z1 k1
 have hp1 := hp.keep k1 (fun e => e)
 obtain ⟨_, _, _, _, inn⟩ := r1.pins
 obtain ⟨c0, _, _, _⟩ := hp1.core
 have f0 := hp1.frozen 0
 have hne : p ≠ w.heap.size := by omega
 have hne2 : w.heap.size ≠ p := by omega
 have hwn := Dp.wrap_word i.n
 unfold Dp.isWord at hwn
 cases b with
 | true =>
  have HN : Hid ((s.pc + 1 + i.n) % 4294967296 = (Dp.jumped s i true).pc) := by
   unfold Hid Dp.jumped Dp.wrap Dp.one; simp
  have HR : Hid (Dp.Row ((w1.setCell ⟨p, 0, none⟩ (.int .u32 (Dp.wrap (s.pc + 1)))).setCell ⟨p, 0, none⟩ (.int .u32 (Dp.jumped s i true).pc)) p 137 (Dp.coreCells (Dp.jumped s i true) mem)) :=
   (hp1.set 0 (.int .u32 (Dp.wrap (s.pc + 1)))).set 0 (.int .u32 (Dp.jumped s i true).pc)
  have HK : Hid (Dp.Keeps (fun k => k = p) w ((w1.setCell ⟨p, 0, none⟩ (.int .u32 (Dp.wrap (s.pc + 1)))).setCell ⟨p, 0, none⟩ (.int .u32 (Dp.jumped s i true).pc))) :=
   (Dp.Keeps.setCell (p := ⟨p, 0, none⟩) (Dp.Keeps.mono (T := fun k => k = p) k1 (fun _ _ e => e.elim)) (.inr rfl) _).setCell (p := ⟨p, 0, none⟩) (.inr rfl) _
  have hpin := hp1.set 0 (.int .u32 (Dp.wrap (s.pc + 1)))
  have rin := r1.setOther ⟨p, 0, none⟩ (.int .u32 (Dp.wrap (s.pc + 1))) hne2
  obtain ⟨_, _, _, _, in2⟩ := rin.pins
  have f1 := hpin.frozen 0
  clear hp hp1 r1 k1 hpin rin
  rw [← HN.out] at HR HK
  unfold Dp.wrap at HR HK in2 f1 inn
  unfold Dp.wrap at hwn
  go_wp2
  go_region
  go_wp2
  go_ret
  exact ⟨rfl, HR.out.drew, HK.out.drew⟩
 | false =>
  have HR : Hid (Dp.Row (w1.setCell ⟨p, 0, none⟩ (.int .u32 (Dp.wrap (s.pc + 1)))) p 137 (Dp.coreCells (Dp.jumped s i false) mem)) := by
   have h := hp1.set 0 (.int .u32 (Dp.wrap (s.pc + 1)))
   have e : Dp.jumped s i false = { s with pc := Dp.wrap (s.pc + 1) } := by unfold Dp.jumped Dp.wrap Dp.one; simp
   unfold Hid
   rw [e]; exact h
  have HK : Hid (Dp.Keeps (fun k => k = p) w (w1.setCell ⟨p, 0, none⟩ (.int .u32 (Dp.wrap (s.pc + 1))))) :=
   Dp.Keeps.setCell (p := ⟨p, 0, none⟩) (Dp.Keeps.mono (T := fun k => k = p) k1 (fun _ _ e => e.elim)) (.inr rfl) _
  clear hp hp1 r1 k1
  go_wp2
  go_ret
  exact ⟨rfl, HR.out, HK.out⟩
namespace Dp
def memCells (vs : Value) (cells : List Int) : List Value := vs :: wordCells cells
theorem memCells_word {w : World} {b o : Nat} {e : TypeId} {pre post : List Value} {vs : Value} {cells : List Int} (h : Row w b e (pre ++ memCells vs cells ++ post)) (ho : pre.length = o) (n : Nat) (hn : n < cells.length) : w.cell? ⟨b, o + 1 + n, none⟩ = some (.int .u32 (cells.getD n 0)) := by
 rw [h.cell, List.append_assoc, List.getElem?_append_right (by omega), ho, show o + 1 + n - o = n + 1 by omega]
 show (wordCells cells ++ post)[n]? = _
 rw [List.getElem?_append_left (by simpa [wordCells] using hn)]
 simp [wordCells, hn]
theorem memCells_srcs {w : World} {b o : Nat} {e : TypeId} {pre post : List Value} {vs : Value} {cells : List Int} (h : Row w b e (pre ++ memCells vs cells ++ post)) (ho : pre.length = o) : w.cell? ⟨b, o, none⟩ = some vs := by
 rw [h.cell, List.append_assoc, List.getElem?_append_right (by omega), ho, show o - o = 0 by omega]
 rfl
theorem memCells_set {w : World} {b o : Nat} {e : TypeId} {pre post : List Value} {vs : Value} {cells : List Int} (h : Row w b e (pre ++ memCells vs cells ++ post)) (ho : pre.length = o) (n : Nat) (hn : n < cells.length) (v : Int) : Row (w.setCell ⟨b, o + 1 + n, none⟩ (.int .u32 v)) b e (pre ++ memCells vs (cells.set n v) ++ post) := by
 have h1 := h.set (o + 1 + n) (.int .u32 v)
 rw [List.append_assoc, List.set_append_right _ _ (by omega), ho, show o + 1 + n - o = n + 1 by omega, List.set_append_left _ _ (by simp [memCells, wordCells]; omega)] at h1
 have e1 : (memCells vs cells).set (n + 1) (.int .u32 v) = memCells vs (cells.set n v) := by simp [memCells, wordCells, List.map_set]
 rw [e1, ← List.append_assoc] at h1
 exact h1
def PartsIn (G : Nat → Prop) (w : World) (v : Value) (ls : List (List UInt8)) : Prop :=
 ∃ b o ad cap, v = .slice ad ls.length cap ∧ ls.length ≤ maxLen ∧ (ls ≠ [] → G b ∧ ad = some ⟨b, o, none⟩) ∧ ∀ i (h : i < ls.length), ∃ b2 o2 ad2 cap2, w.cell? ⟨b, o + i, none⟩ = some (.slice ad2 ls[i].length cap2) ∧ ls[i].length ≤ maxLen ∧ (ls[i] ≠ [] → G b2 ∧ ad2 = some ⟨b2, o2, none⟩) ∧ ∀ j (h2 : j < ls[i].length), w.cell? ⟨b2, o2 + j, none⟩ = some (.int .u8 (ls[i][j].toNat : Int))
theorem PartsIn.keep {G S : Nat → Prop} {w w' : World} {v : Value} {ls : List (List UInt8)} (h : PartsIn G w v ls) (k : Keeps S w w') (hG : ∀ q, G q → q < w.heap.size ∧ ¬ S q) : PartsIn G w' v ls := by
 obtain ⟨b, o, ad, cap, hv, hl, hne, hc⟩ := h
 refine ⟨b, o, ad, cap, hv, hl, hne, fun i hi => ?_⟩
 have hb := hG b (hne (by intro e; simp [e] at hi)).1
 obtain ⟨b2, o2, ad2, cap2, h1, h2, h3, h4⟩ := hc i hi
 refine ⟨b2, o2, ad2, cap2, (k.cell (p := ⟨b, o + i, none⟩) hb.1 hb.2).trans h1, h2, h3, fun j hj => ?_⟩
 have hb2 := hG b2 (h3 (by intro e; simp [e] at hj)).1
 exact (k.cell (p := ⟨b2, o2 + j, none⟩) hb2.1 hb2.2).trans (h4 j hj)
end Dp
set_option maxHeartbeats 400000 in
theorem progReach (x : Value) (n : Int) (w : World) :
  Calls Tryz.prog 112 #[x, .int .u32 n] w fun e w' => e = .returned (.int .i64 (if n ≥ 256 then 3 else 0)) ∧ w' = w := by
 by_cases hn : n ≥ 256
 ·rw [if_pos hn]
  go_enter Tryz.func112, Tryz.ntmps112
  go_wp2
  go_ret
  exact ⟨rfl, rfl⟩
 ·rw [if_neg hn]
  go_enter Tryz.func112, Tryz.ntmps112
  go_wp2
  go_ret
  exact ⟨rfl, rfl⟩
set_option maxRecDepth 100000 in
set_option maxHeartbeats 1000000 in
theorem progCellsLoad (w : World) (b o : Nat) (ty : TypeId) (pre post : List Value) (vs : Value) (cells : List Int) (n : Int) (hl : cells.length = 256) (hr : Dp.Row w b ty (pre ++ Dp.memCells vs cells ++ post)) (ho : pre.length = o) (h : Dp.isWord n) (hw : ∀ x ∈ cells, Dp.isWord x) :
  Calls Tryz.prog 91 #[.pointer (some ⟨b, o, none⟩), .int .u32 n] w fun e w' => e = .returned (.tuple #[.int .u32 (if n ≥ 256 then 0 else cells.getD n.toNat 0), .int .i64 (if n ≥ 256 then 3 else 0)]) ∧ w' = w := by
 have hn0 := h
 unfold Dp.isWord at hn0
 by_cases hn : n ≥ 256
 ·have HC := Hid.mk_ (progReach (.pointer (some ⟨b, o, none⟩)) n w)
  rw [if_pos hn] at HC ⊢
  rw [if_pos hn]
  go_enter Tryz.func91, Tryz.ntmps91
  go_wp2_with (refine HC.out.mono ?_; rintro e w' ⟨rfl, rfl⟩)
  go_ret2
  exact ⟨rfl, rfl⟩
 ·have HC := Hid.mk_ (progReach (.pointer (some ⟨b, o, none⟩)) n w)
  rw [if_neg hn] at HC ⊢
  rw [if_neg hn]
  have hlt : n.toNat < cells.length := by omega
  have c := Dp.memCells_word hr ho n.toNat hlt
  have hx : Dp.isWord (cells.getD n.toNat 0) := by
   rw [List.getD_eq_getElem?_getD, List.getElem?_eq_getElem hlt]; exact hw _ (List.getElem_mem hlt)
  unfold Dp.isWord at hx
  generalize cells.getD n.toNat 0 = cx at *
  go_enter Tryz.func91, Tryz.ntmps91
  go_wp2_with (refine HC.out.mono ?_; rintro e w' ⟨rfl, rfl⟩)
  go_ret2
  exact ⟨rfl, rfl⟩
set_option maxRecDepth 100000 in
set_option maxHeartbeats 1000000 in
theorem progCellsStore (w : World) (b o : Nat) (ty : TypeId) (pre post : List Value) (vs : Value) (cells : List Int) (n v : Int) (hl : cells.length = 256) (hr : Dp.Row w b ty (pre ++ Dp.memCells vs cells ++ post)) (ho : pre.length = o) (h : Dp.isWord n) :
  Calls Tryz.prog 171 #[.pointer (some ⟨b, o, none⟩), .int .u32 n, .int .u32 v] w fun e w' => e = .returned (.int .i64 (if n ≥ 256 then 3 else 0)) ∧ Dp.Row w' b ty (pre ++ Dp.memCells vs (if n ≥ 256 then cells else cells.set n.toNat v) ++ post) ∧ Dp.Keeps (fun k => k = b) w w' := by
 have hn0 := h
 unfold Dp.isWord at hn0
 by_cases hn : n ≥ 256
 ·have HC := Hid.mk_ (progReach (.pointer (some ⟨b, o, none⟩)) n w)
  rw [if_pos hn] at HC ⊢
  rw [if_pos hn]
  go_enter Tryz.func171, Tryz.ntmps171
  go_wp2_with (refine HC.out.mono ?_; rintro e w' ⟨rfl, rfl⟩)
  go_ret
  exact ⟨rfl, hr, Dp.Keeps.refl _ _⟩
 ·have HC := Hid.mk_ (progReach (.pointer (some ⟨b, o, none⟩)) n w)
  rw [if_neg hn] at HC ⊢
  rw [if_neg hn]
  have hlt : n.toNat < cells.length := by omega
  have c := Dp.memCells_word hr ho n.toNat hlt
  have f := hr.frozen (o + 1 + n.toNat)
  have HR := Hid.mk_ (Dp.memCells_set hr ho n.toNat hlt v)
  clear hr
  go_enter Tryz.func171, Tryz.ntmps171
  go_wp2_with (refine HC.out.mono ?_; rintro e w' ⟨rfl, rfl⟩)
  go_ret
  exact ⟨rfl, HR.out, Dp.Keeps.setCell (S := fun k => k = b) (p := ⟨b, o + 1 + n.toNat, none⟩) (Dp.Keeps.refl _ _) (.inr rfl) _⟩
end Go.Proofs.YtdipojfngdceoaaGreatDoor
