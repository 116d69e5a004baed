/- Steps on the way: KeepDoubted1, KeepShown, PureTwin, KeepTwin, PureForge. -/
import Derived.Test.YtdipojfngdceoabGreatDoorPack01
import Derived.Test.YtdipojfngdceoabGreatDoorPack105
import Derived.Test.YtdipojfngdceoabGreatDoorPack78
import Derived.Test.YtdipojfngdceoabGreatDoorPack84
import Derived.Test.YtdipojfngdceoabGreatDoorPack95
import Derived.Test.YtdipojfngdceoabGreatDoorPack99
/- One whose last stamp is wrong: what lies in memory, and what the dispute ends with. -/
namespace Go.Proofs.YtdipojfngdceoabGreatDoor
open Go.RowKit

namespace Dp
/-- The right-hand end stays wrong, where Left is said just where the middle's stamp is wrong. -/
theorem Left2.wrong {L : Nat → Int} {D : Nat} {last : Int} {ms : List (Int × Bool)} {at_ size : Nat} (h : Left2 L D last ms at_ size) (hl : ms.length < D) (x : Int) (left : Bool) (hx : left = true ↔ x ≠ L (at_ + size / 2)) (hr : (endsOf ms (L 0) last).2 ≠ L (at_ + size)) :
    (endsOf (ms ++ [(x, left)]) (L 0) last).2 ≠ L ((if left then at_ else at_ + size / 2) + size / 2) := by
  obtain ⟨h1, h2⟩ := h.half hl
  rw [endsOf_snoc]
  cases left with
  | true => simpa using hx
  | false =>
    simp only [Bool.false_eq_true, if_false]
    have e : at_ + size / 2 + size / 2 = at_ + size := by omega
    rw [e]; exact hr
/-- What lies in memory ahead of a round. -/
structure DouL (w wr : World) (B b : Nat) (G : Nat → Prop) (vs : Value) (M : Mach) (D gr : Nat) (last : Int) (ms : List (Int × Bool)) (at_ size : Nat) (vm : Value) : Prop where
  left : Left2 (stAt M) D last ms at_ size
  right : (endsOf ms (stAt M 0) last).2 ≠ stAt M (at_ + size)
  rows : wr.ownsRow B 32 2 vm ms.length (mvCells ms)
  mach : ProgM wr b G vs M
  st : ∀ i, i < 2 ^ D + 1 → wr.cell? ⟨gr, i, none⟩ = some (.int .i64 (stAt M i))
  keep : Keeps (fun _ => False) w wr
  siz : B ≤ wr.heap.size
theorem DouL.still {w wr w' : World} {B b : Nat} {G : Nat → Prop} {vs : Value} {M : Mach} {D gr : Nat} {last : Int} {ms : List (Int × Bool)} {at_ size : Nat} {vm : Value} (h : DouL w wr B b G vs M D gr last ms at_ size vm) (k : Keeps (fun _ => False) wr w') : DouL w w' B b G vs M D gr last ms at_ size vm :=
  ⟨h.left, h.right, ownsRow_keep h.rows k (fun _ _ e => e), h.mach.keep k (fun e => e) (fun _ _ e => e), fun i hi => (k.cell (p := ⟨gr, i, none⟩) (cell_lt (h.st i hi)) (fun e => e)).trans (h.st i hi), h.keep.trans k, Nat.le_trans h.siz k.size⟩
theorem DouL.grow {w wr w1 w2 : World} {B b : Nat} {G : Nat → Prop} {vs : Value} {M : Mach} {D gr : Nat} {last : Int} {ms : List (Int × Bool)} {at_ size : Nat} {vm vm' : Value} {x : Int} {lf : Bool} (h : DouL w wr B b G vs M D gr last ms at_ size vm)
    (hB : w.heap.size ≤ B) (hb : b < B) (hgr : gr < B) (hG : ∀ q, G q → q < B) (hx : lf = true ↔ x ≠ stAt M (at_ + size / 2)) (hl : ms.length < D)
    (k1 : Keeps (fun _ => False) wr w1) (rows' : w2.ownsRow B 32 2 vm' (ms.length + 1) (mvCells ms ++ [.int .i64 x, .bool lf])) (k2 : Keeps (fun k => vm.ownBlock = some k) w1 w2) :
    DouL w w2 B b G vs M D gr last (ms ++ [(x, lf)]) (if lf then at_ else at_ + size / 2) (size / 2) vm' := by
  have h1 := h.still k1
  have hvm : ∀ g, vm.ownBlock = some g → B ≤ g := fun g hg => (rows_block h1.rows g hg).1
  have k24 : ∀ g, g < B → ¬ (vm.ownBlock = some g) := fun g hg e => by have := hvm g e; omega
  have m2 := h1.mach.keep k2 (k24 b hb) (fun q hq => k24 q (hG q hq))
  have s2 := k2.size
  have hs1 := h1.siz
  refine ⟨?_, ?_, ?_, m2, ?_, ?_, by omega⟩
  · exact h.left.step hl x lf (fun e => by
      by_cases hh : x = stAt M (at_ + size / 2)
      · exact hh
      · have := hx.2 hh; rw [e] at this; cases this)
  · exact h.left.wrong hl x lf hx h.right
  · rw [List.length_append, ← mvCells_snoc]; exact rows'
  · intro i hi
    have c1 := h1.st i hi
    exact (k2.cell (p := ⟨gr, i, none⟩) (cell_lt c1) (k24 gr hgr)).trans c1
  · exact h1.keep.next k2 (fun g hg e => by have := hvm g e; omega)
/-- What the dispute ends with: the step that is left, its first stamp right, its last one wrong; and who upholds it has two texts of one digest. -/
theorem settled_wrong (D : Nat) (hD : D ≤ 7) (m : Mach) (hgo : Goes m (2 ^ D)) (last : Int) (ms : List (Int × Bool)) (hl : ms.length = D) (at_ : Nat) (h : Left2 (stAt m) D last ms at_ 1) (hr : (endsOf ms (stAt m 0) last).2 ≠ stAt m (at_ + 1)) (W : List UInt8) :
    ∃ T up, settled D (stAt m 0) last ms W = (verdictCells (stAt m at_) T at_ up, 0) ∧ T ≠ stAt m (at_ + 1) ∧ (up = true → collides (Mach.after m at_) W) := by
  have hle := h.le
  have h0 : (Mach.after m at_).step.2 = 0 := hgo at_ (by omega)
  have hnum := h.num
  have hn1 : numFrom ms 0 = (at_ : Int) := by simpa using hnum
  refine ⟨(endsOf ms (stAt m 0) last).2, decide ((checked (stAt m at_) W).2 = 0) && (checked (stAt m at_) W).1 == (endsOf ms (stAt m 0) last).2, ?_, hr, ?_⟩
  · unfold settled
    rw [if_neg (by omega), if_neg (by rw [hl]; simp), h.fst, hn1]
  · intro hup
    simp only [Bool.and_eq_true, decide_eq_true_eq, beq_iff_eq] at hup
    refine ⟨hup.1, by rw [h0]; decide, fun ⟨_, e⟩ => hr ?_⟩
    rw [← hup.2]
    exact e.symm
end Dp
end Go.Proofs.YtdipojfngdceoabGreatDoor

/- Two texts are shown: they differ, and have one digest. -/
namespace Go.Proofs.YtdipojfngdceoabGreatDoor
open Go.RowKit

namespace Dp
theorem bytes_parts {w : World} {v : Value} {l : List UInt8} (h : Bytes w v l) : Parts (w.alloc (.cells #[v] 35)) (.slice (some ⟨w.heap.size, 0, none⟩) 1 1) [l] := by
  refine ⟨w.heap.size, 0, _, 1, rfl, by simp [maxLen], fun _ => rfl, fun i hi => ?_⟩
  obtain rfl : i = 0 := by simp at hi; exact hi
  exact ⟨v, (Row.allocNew w 35 [v]).cell 0, h.still ((Keeps.refl (fun _ => False) w).alloc _)⟩
end Dp

set_option maxRecDepth 100000 in
set_option maxHeartbeats 1000000 in
theorem keepShown (w : World) (v u : Value) (A B : List UInt8) (hv : Dp.Bytes w v A) (hu : Dp.Bytes w u B) (hne : A ≠ B) (hs : Dp.sum A = Dp.sum B) :
    Calls Tryz.prog 14 #[v, u] w fun e w' => e = .returned (.bool true) ∧ Dp.Keeps (fun _ => False) w w' := by
  have h1 := Dp.run_toStr hv
  have h2 := Dp.run_toStr hu
  have HV := Hid.mk_ hv
  have HU := Hid.mk_ hu
  obtain ⟨vb, vo, vad, vcap, ev, _⟩ := hv
  obtain ⟨ub, uo, uad, ucap, eu, _⟩ := hu
  subst ev
  subst eu
  have hstr : ((Dp.str A).toList == (Dp.str B).toList) = false := by rw [Dp.str_inj]; simp [hne]
  have HS := Hid.mk_ hs
  generalize Dp.str A = sa at *
  generalize Dp.str B = sb at *
  clear hs hne
  go_enter Tryz.func14, Tryz.ntmps14
  go_wp2_with fail
  have p1 := Dp.bytes_parts HV.out
  refine (progSum1 _ _ _ p1).mono ?_
  rintro e w2 ⟨rfl, ew⟩
  have k2 : Dp.Keeps (fun _ => False) w w2 := by rw [ew]; exact (Dp.Keeps.refl _ _).alloc _
  have HU2 := Hid.mk_ (HU.out.still k2)
  rw [show [A].flatten = A by simp]
  clear p1 ew h1 h2
  go_wp2_with fail
  have p2 := Dp.bytes_parts HU2.out
  refine (progSum1 _ _ _ p2).mono ?_
  rintro e w3 ⟨rfl, ew⟩
  have k3 : Dp.Keeps (fun _ => False) w2 w3 := by rw [ew]; exact (Dp.Keeps.refl _ _).alloc _
  have HK := Hid.mk_ (k2.trans k3)
  rw [show [B].flatten = B by simp, ← HS.out]
  generalize Dp.sum A = SS at *
  clear p2 ew k2 k3
  go_wp2
  go_ret
  exact ⟨rfl, HK.out⟩
end Go.Proofs.YtdipojfngdceoabGreatDoor

/- Of four bytes, the first one given, the last three can be found for any sum, and in two ways. No program is named here. -/
namespace Go.Proofs.YtdipojfngdceoabGreatDoor
namespace Dp
/-- The last byte that is wanted, for the second and the third. -/
def lastOf (want u x y : Int) : Int := (want - 1 - 257 * ((257 * ((257 * u + x + 1) % 65521) + y + 1) % 65521)) % 65521
def twinOf (first x y z : Int) : Int := first * 16777216 + x * 65536 + y * 256 + z
/-- One of two neighbours has a third and a last byte. -/
theorem twin_near (want u x : Int) (hx : 0 ≤ x ∧ x < 256) : (∃ y, 0 ≤ y ∧ y < 256 ∧ lastOf want u x y < 256) ∨ ∃ y, 0 ≤ y ∧ y < 256 ∧ lastOf want u (x + 1) y < 256 := by
  have key : ∀ x : Int, 0 ≤ x → ∀ t : Int, t = (want - 1 - 257 * (257 * (257 * u + x + 1) + 1)) % 65521 → ¬ t % 257 = 256 → ∃ y, 0 ≤ y ∧ y < 256 ∧ lastOf want u x y < 256 := by
    intro x hx t ht hne
    refine ⟨t / 257, by omega, by omega, ?_⟩
    have e : lastOf want u x (t / 257) = (t - 257 * (t / 257)) % 65521 := by
      unfold lastOf
      subst ht
      omega
    rw [e]
    omega
  by_cases h : (want - 1 - 257 * (257 * (257 * u + x + 1) + 1)) % 65521 % 257 = 256
  · refine .inr (key (x + 1) (by omega) _ rfl ?_)
    omega
  · exact .inl (key x hx.1 _ rfl h)
/-- There is a twin that is another number than w. -/
theorem twin_there (want u first w : Int) : ∃ x y : Nat, x < 256 ∧ y < 256 ∧ lastOf want u x y < 256 ∧ twinOf first x y (lastOf want u x y) ≠ w := by
  have near : ∀ x : Nat, x < 255 → ∃ a y : Nat, (a = x ∨ a = x + 1) ∧ y < 256 ∧ lastOf want u a y < 256 := by
    intro x hx
    rcases twin_near want u x (by omega) with ⟨y, h1, h2, h3⟩ | ⟨y, h1, h2, h3⟩
    · refine ⟨x, y.toNat, .inl rfl, by omega, ?_⟩
      rw [Int.toNat_of_nonneg h1]; exact h3
    · refine ⟨x + 1, y.toNat, .inr rfl, by omega, ?_⟩
      rw [Int.toNat_of_nonneg h1]; push_cast; exact h3
  obtain ⟨a, y1, ha, hy1, h1⟩ := near 0 (by omega)
  obtain ⟨b, y2, hb, hy2, h2⟩ := near 2 (by omega)
  by_cases e : twinOf first a y1 (lastOf want u a y1) = w
  · refine ⟨b, y2, by omega, hy2, h2, fun e2 => ?_⟩
    have l1 : 0 ≤ lastOf want u a y1 := by unfold lastOf; omega
    have l2 : 0 ≤ lastOf want u b y2 := by unfold lastOf; omega
    rw [← e] at e2
    unfold twinOf at e2
    generalize lastOf want u a y1 = z1 at *
    generalize lastOf want u b y2 = z2 at *
    omega
  · exact ⟨a, y1, by omega, hy1, h1, e⟩
theorem byteOf_small (n : Int) (h : 0 ≤ n ∧ n < 256) : ((byteOf n).toNat : Int) = n := by
  unfold byteOf
  rw [UInt8.toNat_ofNat']
  omega
/-- Twins have one sum. -/
theorem twin_sum (w : Int) (first x y : Nat) (hf : first < 256) (hx : x < 256) (hy : y < 256) (hl : lastOf (sum (0 :: four w)) (sum [0, byteOf first]) x y < 256) :
    isWord (twinOf first x y (lastOf (sum (0 :: four w)) (sum [0, byteOf first]) x y)) ∧ sum (0 :: four (twinOf first x y (lastOf (sum (0 :: four w)) (sum [0, byteOf first]) x y))) = sum (0 :: four w) := by
  have hb := sum_bd (0 :: four w)
  generalize sum (0 :: four w) = want at *
  have hz : 0 ≤ lastOf want (sum [0, byteOf first]) x y := by unfold lastOf; omega
  have hu : sum [0, byteOf first] = (1800 * 257 + (first : Int) + 1) % 65521 := by
    show sumStep (sumStep 7 0) (byteOf first) = _
    unfold sumStep
    rw [byteOf_small _ (by omega)]
    rfl
  generalize hL : lastOf want (sum [0, byteOf first]) x y = z at *
  refine ⟨by unfold isWord twinOf; omega, ?_⟩
  have b1 : twinOf first x y z / 65536 / 256 % 256 = first := by unfold twinOf; omega
  have b2 : twinOf first x y z / 65536 % 256 = x := by unfold twinOf; omega
  have b3 : twinOf first x y z % 65536 / 256 % 256 = y := by unfold twinOf; omega
  have b4 : twinOf first x y z % 65536 % 256 = z := by unfold twinOf; omega
  show sumStep (sumStep (sumStep (sumStep (sumStep 7 0) (byteOf (twinOf first x y z / 65536 / 256 % 256))) (byteOf (twinOf first x y z / 65536 % 256))) (byteOf (twinOf first x y z % 65536 / 256 % 256))) (byteOf (twinOf first x y z % 65536 % 256)) = want
  rw [b1, b2, b3, b4]
  unfold sumStep
  rw [byteOf_small _ (by omega), byteOf_small _ (by omega), byteOf_small _ (by omega), byteOf_small _ (by omega)]
  have h0 : ((0 : UInt8).toNat : Int) = 0 := rfl
  rw [h0]
  unfold lastOf at hL
  rw [hu] at hL
  omega
end Dp
end Go.Proofs.YtdipojfngdceoabGreatDoor

/- A word's twin, found: the walk. -/
namespace Go.Proofs.YtdipojfngdceoabGreatDoor
open Go.RowKit

namespace Dp
/-- Up to this place no twin was found. -/
def NoTwin (want u first w : Int) (x y : Nat) : Prop := ∀ a b : Nat, a < 256 → b < 256 → (a < x ∨ a = x ∧ b < y) → ¬ (lastOf want u a b < 256 ∧ twinOf first a b (lastOf want u a b) ≠ w)
theorem NoTwin.more {want u first w : Int} {x y : Nat} (h : NoTwin want u first w x y) (hn : ¬ (lastOf want u x y < 256 ∧ twinOf first x y (lastOf want u x y) ≠ w)) : NoTwin want u first w x (y + 1) := by
  intro a b ha hb hab
  by_cases e : a = x ∧ b = y
  · obtain ⟨rfl, rfl⟩ := e; exact hn
  · exact h a b ha hb (by omega)
theorem tmod_fix (D : Int) : (if D.tmod 65521 < 0 then D.tmod 65521 + 65521 else D.tmod 65521) = D % 65521 := by
  rw [Int.tmod_eq_emod]
  split <;> split <;> omega
/-- What twin answers. -/
structure IsTwin (w : Int) (first : Nat) (n : Int) : Prop where
  word : isWord n
  ne : n ≠ w
  sum : sum (0 :: four n) = sum (0 :: four w)
theorem byte_parts (w : World) (cs : List Value) (l : List UInt8) (h : cs = vals l) (hl : l.length ≤ 16777216) : Parts ((w.alloc (.cells cs.toArray 5)).alloc (.cells #[.slice (some ⟨w.heap.size, 0, none⟩) l.length l.length] 35)) (.slice (some ⟨w.heap.size + 1, 0, none⟩) 1 1) [l] := by
  subst h
  have r1 := Row.allocNew w 5 (vals l)
  have r2 := r1.allocOld (.cells #[.slice (some ⟨w.heap.size, 0, none⟩) l.length l.length] 35)
  have r3 : Row ((w.alloc (.cells (vals l).toArray 5)).alloc (.cells #[.slice (some ⟨w.heap.size, 0, none⟩) l.length l.length] 35)) (w.alloc (.cells (vals l).toArray 5)).heap.size 35 [.slice (some ⟨w.heap.size, 0, none⟩) l.length l.length] := Row.allocNew _ 35 [.slice (some ⟨w.heap.size, 0, none⟩) l.length l.length]
  rw [show (w.alloc (.cells (vals l).toArray 5)).heap.size = w.heap.size + 1 by simp] at r3
  refine ⟨w.heap.size + 1, 0, _, 1, rfl, by simp [maxLen], fun _ => rfl, fun i hi => ?_⟩
  obtain rfl : i = 0 := by simp at hi; exact hi
  refine ⟨_, r3.cell 0, w.heap.size, 0, _, l.length, rfl, by show l.length ≤ maxLen; unfold maxLen; omega, fun _ => rfl, fun j hj => ?_⟩
  have hj' : j < l.length := hj
  rw [Nat.zero_add, r2.cell]
  simp [vals, hj']
end Dp
def lastOfX (want u : Int) (x y : Nat) (first : Nat) (n : Int) : Prop := Dp.lastOf want u x y < 256 ∧ Dp.twinOf first x y (Dp.lastOf want u x y) ≠ n

set_option maxRecDepth 100000 in
set_option maxHeartbeats 2000000 in
theorem keepTwin (w : World) (n : Int) (first : Nat) (hn : Dp.isWord n) (hf : first < 256) :
    Calls Tryz.prog 11 #[.int .i64 n, .int .i64 first] w fun e w' => (∃ t, e = .returned (.int .i64 t) ∧ Dp.IsTwin n first t) ∧ Dp.Keeps (fun _ => False) w w' := by
  have hn' := hn
  unfold Dp.isWord at hn'
  have hf' : (first : Int) < 256 := by omega
  have hf0 : (0 : Int) ≤ first := by omega
  go_enter Tryz.func11, Tryz.ntmps11
  go_wp2_with fail
  have hcs : [Value.int .u8 0, .int .u8 (n / 16777216), .int .u8 (n / 65536 % 256), .int .u8 (n / 256 % 256), .int .u8 (n % 256)] = Dp.vals (0 :: Dp.four n) := by
    have h := Dp.vals_cellText n
    unfold Dp.cellText at h
    rw [h, show n / 16777216 % 256 = n / 16777216 by omega]
  have hp := Dp.byte_parts w _ (0 :: Dp.four n) hcs (by simp [Dp.four_length])
  refine (progSum1 _ _ _ hp).mono ?_
  rintro e w1 ⟨rfl, ew⟩
  have k1 : Dp.Keeps (fun _ => False) w w1 := by rw [ew]; exact ((Dp.Keeps.refl _ _).alloc _).alloc _
  have HK1 := Hid.mk_ k1
  rw [show [0 :: Dp.four n].flatten = 0 :: Dp.four n by simp]
  clear hp ew k1 hcs
  go_wp2_with fail
  have hcs : [Value.int .u8 0, .int .u8 (first : Int)] = Dp.vals [0, Dp.byteOf first] := by
    show _ = [Value.int .u8 0, .int .u8 ((Dp.byteOf (first : Int)).toNat : Int)]
    rw [Dp.byteOf_small _ (by omega)]
  have hp := Dp.byte_parts w1 _ [0, Dp.byteOf first] hcs (by simp)
  refine (progSum1 _ _ _ hp).mono ?_
  rintro e w2 ⟨rfl, ew⟩
  have k2 : Dp.Keeps (fun _ => False) w1 w2 := by rw [ew]; exact ((Dp.Keeps.refl _ _).alloc _).alloc _
  have HK2 := Hid.mk_ (HK1.out.trans k2)
  rw [show [[0, Dp.byteOf (first : Int)]].flatten = [0, Dp.byteOf (first : Int)] by simp]
  clear hp ew k2 hcs HK1
  have hwb := Dp.sum_bd (0 :: Dp.four n)
  have hub := Dp.sum_bd [0, Dp.byteOf (first : Int)]
  have HTS := Hid.mk_ (fun x y hx hy => Dp.twin_sum n first x y hf hx hy)
  obtain ⟨x0, y0, hx0, hy0, hl0, hne0⟩ := Dp.twin_there (Dp.sum (0 :: Dp.four n)) (Dp.sum [0, Dp.byteOf (first : Int)]) first n
  generalize hW : Dp.sum (0 :: Dp.four n) = want at *
  have HW := Hid.mk_ hW
  generalize Dp.sum [0, Dp.byteOf (first : Int)] = u at *
  clear hW
  have HTH : Hid (lastOfX want u x0 y0 first n) := ⟨hl0, hne0⟩
  clear hl0 hne0
  go_wp2
  go_loop [7] (fun i => ∃ x : Nat, x ≤ 256 ∧ i = .int .i64 x ∧ Hid (Dp.NoTwin want u first n x 0)) (fun i => 256 - (intOf i).toNat)
  case atStart => exact ⟨0, Nat.zero_le _, rfl, fun a b _ _ h => by omega⟩
  case round =>
    obtain ⟨x, hx, rfl, HN⟩ := hrel
    by_cases hlt : x < 256
    · have hlt' : (x : Int) < 256 := by omega
      go_wp2
      go_loop [9] (fun i => ∃ y : Nat, y ≤ 256 ∧ i = .int .i64 y ∧ Hid (Dp.NoTwin want u first n x y)) (fun i => 256 - (intOf i).toNat)
      case atStart => exact ⟨0, Nat.zero_le _, rfl, HN⟩
      case round =>
        obtain ⟨y, hy, rfl, HNy⟩ := hrel
        by_cases hly : y < 256
        · have hly' : (y : Int) < 256 := by omega
          obtain ⟨E, hE⟩ : ∃ E, (want - 1 - 257 * ((257 * ((257 * u + (x : Int) + 1) % 65521) + (y : Int) + 1) % 65521)).tmod 65521 = E := ⟨_, rfl⟩
          have HE' := Hid.mk_ hE
          have hEb : -65521 < E ∧ E < 65521 := by
            rw [← hE]
            exact ⟨Int.lt_tmod_of_pos _ (by decide), Int.tmod_lt_of_pos _ (by decide)⟩
          have hfx : (first : Int) * 16777216 ≤ 4278190080 := by omega
          by_cases hneg : E < 0
          · have hE' := HE'.out
            have HZ : Hid (Dp.lastOf want u x y = E + 65521) := by unfold Hid Dp.lastOf; rw [← Dp.tmod_fix, hE']; exact if_pos hneg
            by_cases hz : E + 65521 < 256
            · by_cases hne : (first : Int) * 16777216 + x * 65536 + y * 256 + (E + 65521) = n
              · have HNX : Hid (Dp.NoTwin want u first n x (y + 1)) := Dp.NoTwin.more HNy.out (fun h => h.2 (by rw [HZ.out]; exact hne))
                have hbe : ((first : Int) * 16777216 + x * 65536 + y * 256 + (E + 65521) != n) = false := by simp [hne]
                go_wp2
                go_round
                case rel => exact ⟨y + 1, by omega, by go_num, HNX⟩
                case measure => simp [intOf]; omega
              · have hbe : ((first : Int) * 16777216 + x * 65536 + y * 256 + (E + 65521) != n) = true := by simpa using hne
                have HT := Hid.mk_ (HTS.out x y hlt hly (by rw [HZ.out]; exact hz))
                rw [HZ.out] at HT
                have HNE := Hid.mk_ hne
                go_wp2
                go_ret
                exact ⟨⟨_, rfl, HT.out.1, HNE.out, HT.out.2.trans HW.out.symm⟩, HK2.out⟩
            · have HNX : Hid (Dp.NoTwin want u first n x (y + 1)) := Dp.NoTwin.more HNy.out (fun h => by rw [HZ.out] at h; exact hz h.1)
              go_wp2
              go_round
              case rel => exact ⟨y + 1, by omega, by go_num, HNX⟩
              case measure => simp [intOf]; omega
          · have hE' := HE'.out
            have HZ : Hid (Dp.lastOf want u x y = E) := by unfold Hid Dp.lastOf; rw [← Dp.tmod_fix, hE']; exact if_neg hneg
            by_cases hz : E < 256
            · by_cases hne : (first : Int) * 16777216 + x * 65536 + y * 256 + (E) = n
              · have HNX : Hid (Dp.NoTwin want u first n x (y + 1)) := Dp.NoTwin.more HNy.out (fun h => h.2 (by rw [HZ.out]; exact hne))
                have hbe : ((first : Int) * 16777216 + x * 65536 + y * 256 + (E) != n) = false := by simp [hne]
                go_wp2
                go_round
                case rel => exact ⟨y + 1, by omega, by go_num, HNX⟩
                case measure => simp [intOf]; omega
              · have hbe : ((first : Int) * 16777216 + x * 65536 + y * 256 + (E) != n) = true := by simpa using hne
                have HT := Hid.mk_ (HTS.out x y hlt hly (by rw [HZ.out]; exact hz))
                rw [HZ.out] at HT
                have HNE := Hid.mk_ hne
                go_wp2
                go_ret
                exact ⟨⟨_, rfl, HT.out.1, HNE.out, HT.out.2.trans HW.out.symm⟩, HK2.out⟩
            · have HNX : Hid (Dp.NoTwin want u first n x (y + 1)) := Dp.NoTwin.more HNy.out (fun h => by rw [HZ.out] at h; exact hz h.1)
              go_wp2
              go_round
              case rel => exact ⟨y + 1, by omega, by go_num, HNX⟩
              case measure => simp [intOf]; omega
        · obtain rfl : y = 256 := by omega
          have HNX : Hid (Dp.NoTwin want u first n (x + 1) 0) := fun a b ha hb h => HNy.out a b ha hb (by omega)
          have hly' : ¬ ((256 : Nat) : Int) < 256 := by omega
          rw [show ((256 : Nat) : Int) = 256 from rfl]
          go_wp2
          go_round
          case rel => exact ⟨x + 1, by omega, by go_num, HNX⟩
          case measure => simp [intOf]; omega
    · exfalso
      obtain ⟨h1, h2⟩ := HTH.out
      exact HN.out x0 y0 hx0 hy0 (by omega) ⟨h1, h2⟩
end Go.Proofs.YtdipojfngdceoabGreatDoor

/- A witness of LOAD or STORE in which the cell's word is another one with the same digest is taken. No program is named here. -/
namespace Go.Proofs.YtdipojfngdceoabGreatDoor
namespace Dp
theorem rooted_same (l l' : List UInt8) (v v' : Int) (n : Nat) (hv : sum (0 :: four v) = sum (0 :: four v')) (hl : ∀ k, numTo l (4 + 2 * k) 2 = numTo l' (4 + 2 * k) 2) : ∀ k, rooted l v n k = rooted l' v' n k
  | 0 => hv
  | k + 1 => by
    unfold rooted
    rw [rooted_same l l' v v' n hv hl k, hl k]
theorem proof_split (cells : List Int) (n : Nat) : proof cells n = four (cells.getD n 0) ++ (proof cells n).drop 4 := by
  have h : ∀ k, ∃ T, proofTo cells n k = four (cells.getD n 0) ++ T := by
    intro k
    induction k with
    | zero => exact ⟨[], by simp [proofTo]⟩
    | succ k ih => obtain ⟨T, hT⟩ := ih; exact ⟨T ++ two (digest cells (sib n k) k), by unfold proofTo; rw [hT, List.append_assoc]⟩
  obtain ⟨T, hT⟩ := h 8
  have hT' : proof cells n = four (cells.getD n 0) ++ T := hT
  rw [hT', show (four (cells.getD n 0) ++ T).drop 4 = T from rfl]
theorem four_drop (p T : List UInt8) (h : p.length = 4) (i k : Nat) : numTo (p ++ T) (4 + i) k = numTo T i k := by
  have := numTo_behind p T i k
  rwa [h] at this
theorem forged_ok (m : Mach) (hok : m.Ok) (h0 : m.step.2 = 0) (hov : m.s.over = false) (hop : (decode (m.cell m.s.pc)).op = 13 ∨ (decode (m.cell m.s.pc)).op = 14) :
    ∃ a, a < 256 ∧ shown m = proof m.cells m.s.pc.toNat ++ proof m.cells a ∧ ∀ other, isWord other → sum (0 :: four other) = sum (0 :: four (m.cells.getD a 0)) →
      (checked (stamp m.s (root m.cells)) (label m.s (root m.cells) ++ (proof m.cells m.s.pc.toNat ++ (four other ++ (proof m.cells a).drop 4)))).2 = 0 := by
  have hpcw := hok.s.pc
  unfold isWord at hpcw
  have hpc : ¬ m.s.pc ≥ 256 := by
    intro h
    unfold Mach.step at h0
    rw [if_neg (by simp [hov]), if_pos h] at h0
    simp at h0
  have hn : ¬ wrap (m.s.reg (decode (m.cell m.s.pc)).b + (decode (m.cell m.s.pc)).n) ≥ 256 := by
    intro h
    unfold Mach.step at h0
    rw [if_neg (by simp [hov]), if_neg hpc] at h0
    simp only [hop, if_true, h] at h0
    simp at h0
  have hwr := wrap_word (m.s.reg (decode (m.cell m.s.pc)).b + (decode (m.cell m.s.pc)).n)
  unfold isWord at hwr
  have e1 : recordMemo.load (m.cells, m.srcs, []) m.s.pc = some ((m.cells, m.srcs, [] ++ proof m.cells m.s.pc.toNat), m.cell m.s.pc, 0) := by simp [recordMemo, hpc, Mach.cell]
  refine ⟨(wrap (m.s.reg (decode (m.cell m.s.pc)).b + (decode (m.cell m.s.pc)).n)).toNat, by omega, ?_, ?_⟩
  · unfold shown coreStep
    simp only [hov, Bool.false_eq_true, if_false, e1, ne_eq, not_true_eq_false]
    generalize decode (m.cell m.s.pc) = i at *
    rcases hop with h | h
    · simp [perform, h, recordMemo, hn]
    · simp [perform, h, recordMemo, hn]
  · intro other hw hs
    generalize ha : (wrap (m.s.reg (decode (m.cell m.s.pc)).b + (decode (m.cell m.s.pc)).n)).toNat = a at *
    have ha2 : a < 256 := by omega
    have hT : ((proof m.cells a).drop 4).length = 16 := by rw [List.length_drop, proof_length]
    generalize hTT : (proof m.cells a).drop 4 = T2 at *
    have hps : proof m.cells a = four (m.cells.getD a 0) ++ T2 := by rw [← hTT]; exact proof_split m.cells a
    have hb := root_bd m.cells
    obtain ⟨u1, u2, u3⟩ := unlab_label m.s (root m.cells) (proof m.cells m.s.pc.toNat ++ (four other ++ T2)) hok.s (by omega)
    have hlen : (label m.s (root m.cells)).length = 47 := label_length _ _ hok.s.len
    have hdrop : (label m.s (root m.cells) ++ (proof m.cells m.s.pc.toNat ++ (four other ++ T2))).drop 47 = proof m.cells m.s.pc.toNat ++ (four other ++ T2) := by
      have := List.drop_left (l₁ := label m.s (root m.cells)) (l₂ := proof m.cells m.s.pc.toNat ++ (four other ++ T2))
      rwa [hlen] at this
    have hfit1 : fitsNow ⟨proof m.cells m.s.pc.toNat ++ (four other ++ T2), root m.cells, []⟩ m.s.pc.toNat = true := by
      unfold fitsNow
      have hww : isWord (m.cells.getD m.s.pc.toNat 0) := hok.cell m.s.pc
      simp only [List.length_append, proof_length]
      rw [numTo_proof_word _ _ hww, root_proof_own _ _ hok.len (by omega)]
      simp
    have hfit2 : ∀ T, fitsNow ⟨four other ++ T2, root m.cells, T⟩ a = true := by
      intro T
      unfold fitsNow
      simp only [List.length_append, four_length, hT]
      have h4 : numTo (four other ++ T2) 0 4 = other := numTo_four_back other hw T2
      have hr : rooted (four other ++ T2) other a 8 = rooted (proof m.cells a ++ []) (m.cells.getD a 0) a 8 := by
        refine rooted_same _ _ _ _ _ hs (fun k => ?_) 8
        rw [four_drop _ _ (four_length _), List.append_nil, hps, four_drop _ _ (four_length _)]
      rw [h4, hr, root_proof_own _ _ hok.len ha2]
      simp
    have hd20 : (proof m.cells m.s.pc.toNat ++ (four other ++ T2)).drop 20 = four other ++ T2 := by
      have := List.drop_left (l₁ := proof m.cells m.s.pc.toNat) (l₂ := four other ++ T2)
      rwa [proof_length] at this
    have hd20' : (four other ++ T2).drop 20 = [] := List.drop_eq_nil_of_le (by rw [List.length_append, four_length, hT]; decide)
    have hstep := step_fit m.s ⟨proof m.cells m.s.pc.toNat ++ (four other ++ T2), root m.cells, []⟩ hov hpc hfit1
    have hcell : numTo (proof m.cells m.s.pc.toNat ++ (four other ++ T2)) 0 4 = m.cell m.s.pc := numTo_proof_word _ _ (hok.cell m.s.pc) _
    unfold behind at hstep
    simp only [hd20, hcell] at hstep
    unfold checked heard
    rw [if_pos ⟨by rw [List.length_append, hlen]; omega, u3, by rw [u1, u2]; rfl⟩, u1, u2, hdrop, hstep]
    generalize decode (m.cell m.s.pc) = i at *
    rcases hop with h | h
    · simp [perform, h, proofsMemo, hn, ha, hfit2, hd20', toldBy]
    · simp [perform, h, proofsMemo, hn, ha, hfit2, hd20', toldBy]
/-- A text in which four bytes are others. -/
def setWord (W : List UInt8) (k : Nat) (t : Int) : List UInt8 := (((W.set k (byteOf (t / 16777216))).set (k + 1) (byteOf (t / 65536 % 256))).set (k + 2) (byteOf (t / 256 % 256))).set (k + 3) (byteOf (t % 256))
theorem setWord_length (W : List UInt8) (k : Nat) (t : Int) : (setWord W k t).length = W.length := by simp [setWord]
theorem setWord_at (p T : List UInt8) (x t : Int) (ht : isWord t) : setWord (p ++ (four x ++ T)) p.length t = p ++ (four t ++ T) := by
  unfold isWord at ht
  have e1 : t / 65536 / 256 % 256 = t / 16777216 := by omega
  have e3 : t % 65536 / 256 % 256 = t / 256 % 256 := by omega
  have e4 : t % 65536 % 256 = t % 256 := by omega
  have h4 : four t = [byteOf (t / 16777216), byteOf (t / 65536 % 256), byteOf (t / 256 % 256), byteOf (t % 256)] := by
    show [byteOf (t / 65536 / 256 % 256), byteOf (t / 65536 % 256), byteOf (t % 65536 / 256 % 256), byteOf (t % 65536 % 256)] = _
    rw [e1, e3, e4]
  unfold setWord
  rw [h4, List.set_append_right _ _ (Nat.le_refl _), List.set_append_right _ _ (by omega), List.set_append_right _ _ (by omega), List.set_append_right _ _ (by omega), Nat.sub_self, Nat.add_sub_cancel_left, Nat.add_sub_cancel_left, Nat.add_sub_cancel_left]
  rfl
theorem vals_set (W : List UInt8) (i : Nat) (x : Int) (hx : 0 ≤ x ∧ x < 256) : (vals W).set i (.int .u8 x) = vals (W.set i (byteOf x)) := by
  unfold vals
  rw [List.map_set, byteOf_small x hx]
/-- The machine's own witness of LOAD or STORE, the second word another one of the same digest, is taken. -/
theorem forged_taken (m : Mach) (hok : m.Ok) (h0 : m.step.2 = 0) (hl : (witnessOf m).length = 87) (hop : ((witnessOf m).getD 47 0).toNat / 4 = 13 ∨ ((witnessOf m).getD 47 0).toNat / 4 = 14) (t : Int) (ht : isWord t) (hs : sum (0 :: four t) = sum (0 :: four (numTo (witnessOf m) 67 4))) :
    (checked (stamp m.s (root m.cells)) (setWord (witnessOf m) 67 t)).2 = 0 := by
  have hlab : (label m.s (root m.cells)).length = 47 := label_length _ _ hok.s.len
  have hW : witnessOf m = label m.s (root m.cells) ++ shown m := by unfold witnessOf; rw [if_neg (by simp [h0])]
  have hov : m.s.over = false := by
    cases h : m.s.over with
    | false => rfl
    | true =>
      have : shown m = [] := by unfold shown coreStep; simp [h]
      rw [hW, this, List.append_nil, hlab] at hl
      omega
  have hpcw := hok.s.pc
  unfold isWord at hpcw
  have hpc : ¬ m.s.pc ≥ 256 := by
    intro h
    unfold Mach.step at h0
    rw [if_neg (by simp [hov]), if_pos h] at h0
    simp at h0
  have hcw := hok.cell m.s.pc
  have hfirst : ∃ r, shown m = four (m.cell m.s.pc) ++ r := by
    obtain ⟨x, h1, h2⟩ := coreStep_record m []
    have e1 : recordMemo.load (m.cells, m.srcs, []) m.s.pc = some ((m.cells, m.srcs, [] ++ proof m.cells m.s.pc.toNat), m.cell m.s.pc, 0) := by simp [recordMemo, hpc, Mach.cell]
    have key : ∃ r, shown m = proof m.cells m.s.pc.toNat ++ r := by
      unfold shown coreStep
      simp only [hov, Bool.false_eq_true, if_false, e1, ne_eq, not_true_eq_false]
      generalize decode (m.cell m.s.pc) = i
      by_cases h13 : i.op = 13
      · by_cases hn : wrap (m.s.reg i.b + i.n) ≥ 256
        · exact ⟨[], by simp [perform, h13, recordMemo, hn]⟩
        · exact ⟨_, by simp [perform, h13, recordMemo, hn]; rfl⟩
      by_cases h14 : i.op = 14
      · by_cases hn : wrap (m.s.reg i.b + i.n) ≥ 256
        · exact ⟨[], by simp [perform, h14, recordMemo, hn]⟩
        · exact ⟨_, by simp [perform, h14, recordMemo, hn]; rfl⟩
      by_cases h19 : i.op = 19
      · cases hf : findSrc m.srcs (m.s.reg i.b) with
        | none => exact ⟨[], by simp [perform, h19, recordMemo, hf]⟩
        | some l => exact ⟨_, by simp [perform, h19, recordMemo, hf]; rfl⟩
      · refine ⟨[], ?_⟩
        simp only [perform, h13, h14, h19, if_false]
        by_cases hq : (still m.s i).2 = 0
        · simp [hq]
        · simp [hq]
    obtain ⟨r, hr⟩ := key
    refine ⟨(proof m.cells m.s.pc.toNat).drop 4 ++ r, ?_⟩
    rw [hr]
    conv => lhs; rw [proof_split]
    rw [List.append_assoc]
    rfl
  obtain ⟨r, hr⟩ := hfirst
  have hb47 : (((witnessOf m).getD 47 0).toNat : Int) = m.cell m.s.pc / 16777216 := by
    unfold isWord at hcw
    rw [hW, hr, List.getD_eq_getElem?_getD, List.getElem?_append_right (by omega), hlab, Nat.sub_self]
    show ((byteOf (m.cell m.s.pc / 65536 / 256 % 256)).toNat : Int) = _
    rw [byteOf_small _ (by omega)]
    omega
  have hop' : (decode (m.cell m.s.pc)).op = 13 ∨ (decode (m.cell m.s.pc)).op = 14 := by
    show m.cell m.s.pc / 67108864 = 13 ∨ m.cell m.s.pc / 67108864 = 14
    omega
  obtain ⟨a, ha, hsh, hall⟩ := forged_ok m hok h0 hov hop'
  have hWe : witnessOf m = (label m.s (root m.cells) ++ proof m.cells m.s.pc.toNat) ++ (four (m.cells.getD a 0) ++ (proof m.cells a).drop 4) := by
    rw [hW, hsh, ← proof_split, List.append_assoc]
  have hp67 : (label m.s (root m.cells) ++ proof m.cells m.s.pc.toNat).length = 67 := by rw [List.length_append, hlab, proof_length]
  have hwas : numTo (witnessOf m) 67 4 = m.cells.getD a 0 := by
    rw [hWe]
    have := numTo_behind (label m.s (root m.cells) ++ proof m.cells m.s.pc.toNat) (four (m.cells.getD a 0) ++ (proof m.cells a).drop 4) 0 4
    rw [hp67, Nat.add_zero] at this
    rw [this]
    exact numTo_four_back _ (hok.cell (a : Int)) _
  rw [hwas] at hs
  have := hall t ht hs
  rw [hWe]
  have hset := setWord_at (label m.s (root m.cells) ++ proof m.cells m.s.pc.toNat) ((proof m.cells a).drop 4) (m.cells.getD a 0) t ht
  rw [hp67] at hset
  rw [hset, List.append_assoc]
  exact this
end Dp
end Go.Proofs.YtdipojfngdceoabGreatDoor
