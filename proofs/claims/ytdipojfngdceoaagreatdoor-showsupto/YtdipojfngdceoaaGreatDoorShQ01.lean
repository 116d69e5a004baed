/- Steps on the way: Heap, Structs, PlainSum, Spec, PlainBits, Shapes, Dig, Lent. -/
import Derived.WalkKit
import Derived.Laws.CopyOwn
import Derived.Deep.MidRow
import Derived.Deep.Draws
import Derived.Test.YtdipojfngdceoaaGreatDoorProg
import Derived.WalkSpells
import Derived.WalkLawsBesides
import Derived.Test.YtdipojfngdceoaaGreatDoorRows
namespace Go.Proofs.YtdipojfngdceoaaGreatDoor
namespace Dp
open Go.RowKit
structure Keeps (S : Nat → Prop) (w w' : World) : Prop where
 os : w'.os = w.os
 tape : w'.tape = w.tape
 output : w'.output = w.output
 size : w.heap.size ≤ w'.heap.size
 block : ∀ k, k < w.heap.size → ¬ S k → w'.heap[k]? = w.heap[k]?
theorem Keeps.refl (S : Nat → Prop) (w : World) : Keeps S w w := ⟨rfl, rfl, rfl, Nat.le_refl _, fun _ _ _ => rfl⟩
theorem Keeps.next {S T : Nat → Prop} {a b c : World} (h : Keeps S a b) (k : Keeps T b c) (hT : ∀ i, i < a.heap.size → T i → S i) : Keeps S a c :=
 ⟨k.os.trans h.os, k.tape.trans h.tape, k.output.trans h.output, Nat.le_trans h.size k.size,
  fun i hi hs => (k.block i (Nat.lt_of_lt_of_le hi h.size) (fun t => hs (hT i hi t))).trans (h.block i hi hs)⟩
theorem Keeps.trans {S : Nat → Prop} {a b c : World} (h : Keeps S a b) (k : Keeps S b c) : Keeps S a c := h.next k fun _ _ s => s
theorem Keeps.mono {S T : Nat → Prop} {w w' : World} (h : Keeps S w w') (hT : ∀ k, k < w.heap.size → S k → T k) : Keeps T w w' :=
 ⟨h.os, h.tape, h.output, h.size, fun k hk ht => h.block k hk (fun hs => ht (hT k hk hs))⟩
theorem Keeps.drew {S : Nat → Prop} {a w : World} (h : Keeps S a w) : Keeps S a w.drew := ⟨h.os, h.tape, h.output, h.size, h.block⟩
theorem Keeps.setCell {S : Nat → Prop} {a w : World} (h : Keeps S a w) {p : Addr} (hp : a.heap.size ≤ p.block ∨ S p.block) (u : Value) : Keeps S a (w.setCell p u) :=
 ⟨h.os, h.tape, h.output, by simpa using h.size, fun k hk hs => by
  have hne : k ≠ p.block := fun e => by subst e; exact hp.elim (fun h => by omega) hs
  rw [Below.heap_setCell _ _ _ _ hne]; exact h.block k hk hs⟩
theorem Keeps.alloc {S : Nat → Prop} {a w : World} (h : Keeps S a w) (o : Obj) : Keeps S a (w.alloc o) :=
 ⟨h.os, h.tape, h.output, by have := h.size; simp; omega, fun k hk hs => by rw [Below.heap_alloc _ _ _ (Nat.lt_of_lt_of_le hk h.size)]; exact h.block k hk hs⟩
theorem Keeps.setRow {S : Nat → Prop} {a w : World} (h : Keeps S a w) {g : Nat} (hp : a.heap.size ≤ g ∨ S g) (cs : Array Value) : Keeps S a (w.setRow g cs) :=
 ⟨h.os, h.tape, h.output, by simpa using h.size, fun k hk hs => by
  have hne : k ≠ g := fun e => by subst e; exact hp.elim (fun h => by omega) hs
  rw [setRow_other w g k cs hne]; exact h.block k hk hs⟩
theorem Keeps.below {S : Nat → Prop} {B : Nat} {w w' : World} (h : Keeps S w w') (hS : ∀ k, k < B → ¬ S k) (hB : B ≤ w.heap.size) : Below B w w' :=
 ⟨h.os, h.tape, h.output, h.size, fun k hk => h.block k (Nat.lt_of_lt_of_le hk hB) (hS k hk)⟩
theorem Keeps.cell {S : Nat → Prop} {w w' : World} (h : Keeps S w w') {p : Addr} (hp : p.block < w.heap.size) (hs : ¬ S p.block) : w'.cell? p = w.cell? p := World.cell?_of_block (w := w) (h.block p.block hp hs)
def Row (w : World) (g : Nat) (e : TypeId) (cs : List Value) : Prop := w.heap[g]? = some (.cells cs.toArray e (0, 0))
theorem Row.lt {w : World} {g : Nat} {e : TypeId} {cs : List Value} (h : Row w g e cs) : g < w.heap.size := (Array.getElem?_eq_some_iff.1 h).1
theorem Row.cell {w : World} {g : Nat} {e : TypeId} {cs : List Value} (h : Row w g e cs) (i : Nat) : w.cell? ⟨g, i, none⟩ = cs[i]? := by
 unfold Row at h; simp [World.cell?, h]
theorem Row.cellAt {w : World} {g : Nat} {e : TypeId} {cs : List Value} (h : Row w g e cs) (i : Nat) (hi : i < cs.length) : w.cell? ⟨g, i, none⟩ = some cs[i] := by
 rw [h.cell]; exact List.getElem?_eq_getElem hi
theorem Row.frozen {w : World} {g : Nat} {e : TypeId} {cs : List Value} (h : Row w g e cs) (i : Nat) : w.frozen? ⟨g, i, none⟩ = false := by
 unfold Row at h; simp [World.frozen?, h]
theorem Row.keep {S : Nat → Prop} {w w' : World} {g : Nat} {e : TypeId} {cs : List Value} (h : Row w g e cs) (k : Keeps S w w') (hs : ¬ S g) : Row w' g e cs :=
 (k.block g h.lt hs).trans h
theorem Row.set {w : World} {g : Nat} {e : TypeId} {cs : List Value} (h : Row w g e cs) (i : Nat) (v : Value) : Row (w.setCell ⟨g, i, none⟩ v) g e (cs.set i v) := by
 have := heap_setCell_same w g i cs.toArray e v h
 unfold Row; rw [this]; simp
theorem Row.setOther {w : World} {g : Nat} {e : TypeId} {cs : List Value} (h : Row w g e cs) (p : Addr) (v : Value) (hp : g ≠ p.block) : Row (w.setCell p v) g e cs := by
 unfold Row; rw [Below.heap_setCell _ _ _ _ hp]; exact h
theorem Row.drew {w : World} {g : Nat} {e : TypeId} {cs : List Value} (h : Row w g e cs) : Row w.drew g e cs := h
theorem Row.allocOld {w : World} {g : Nat} {e : TypeId} {cs : List Value} (h : Row w g e cs) (o : Obj) : Row (w.alloc o) g e cs := by
 unfold Row; rw [Below.heap_alloc _ _ _ h.lt]; exact h
theorem Row.allocNew (w : World) (e : TypeId) (cs : List Value) : Row (w.alloc (.cells cs.toArray e (0, 0))) w.heap.size e cs := heap_alloc_new w _
theorem Row.setRow {w : World} {g : Nat} {e : TypeId} {cs : List Value} (h : Row w g e cs) (ds : List Value) : Row (w.setRow g ds.toArray) g e ds :=
 setRow_heap w g _ _ e _ h
theorem Row.ne {w : World} {g b : Nat} {e f : TypeId} {xs ys : List Value} (h : Row w g e xs) (k : Row w b f ys) (hef : e ≠ f) : g ≠ b := by
 intro e1; subst e1; unfold Row at h k; rw [h] at k; simp at k; exact hef k.2
theorem fill_step (L : List Value) (j : Nat) (x : Value) (hj : j < L.length) : (List.replicate j x ++ L.drop j).set j x = List.replicate (j + 1) x ++ L.drop (j + 1) := by
 rw [List.set_append_right _ _ (by simp), List.length_replicate, Nat.sub_self, List.drop_eq_getElem_cons hj, List.set_cons_zero]
 have e : List.replicate (j + 1) x = List.replicate j x ++ [x] := List.replicate_succ'
 rw [e, List.append_assoc]; rfl
theorem fill_cell {w : World} {g : Nat} {e : TypeId} {L : List Value} {j : Nat} {x : Value} (h : Row w g e (List.replicate j x ++ L.drop j)) (hj : j < L.length) : w.cell? ⟨g, j, none⟩ = some L[j] := by
 rw [h.cell, List.getElem?_append_right (by simp)]; simp
theorem add_zero_off (g j : Nat) : (⟨g, 0, none⟩ : Addr).add j = ⟨g, j, none⟩ := by unfold Addr.add; split <;> simp_all
theorem madeCells_one (z : Value) (n : Nat) : madeCells #[z] n = (List.replicate n z).toArray := by
 unfold madeCells
 apply Array.ext
 ·simp
 ·intro i h1 h2; simp [Nat.mod_one]
theorem wpList_make_row {P : Program} (w : World) {ops : Array Oper} {rest : List Oper} {o : Oper} {a : Act} {Q : Exit → Act → World → Prop}
  (hg : o.guard = none) (l c : Operand) (t : TypeId) (hop : o.op = Op.makeSlice t l c)
  (e : TypeId) (z : Value) (bytes : Nat) (h1 : P.underlying t = some (.slice e)) (h2 : (P.info? e).map (fun i => (i.zero, i.size, i.bytes)) = some (some z, 1, bytes)) (hz : z.cells = #[z])
  (kl kc : IntKind) (L C : Int) (n : Nat) (hl : a.eval l = .int kl L) (hc : a.eval c = .int kc C) (hL : L = (n : Int)) (hC : C = (n : Int)) (b2 : bytes * n ≤ 281474976710656) (b3 : n ≤ maxLen)
  (hK : ∀ w', Row w' w.heap.size e (List.replicate n z) → w'.heap.size = w.heap.size + 1 → Keeps (fun _ => False) w w' → wpList P ops Q rest (a.put o.dst (.slice (some ⟨w.heap.size, 0, none⟩) n n)) w') :
  wpList P ops Q (o :: rest) a w := by
 refine wpList_plain hg fun K hK' => ?_
 obtain ⟨i, hi, hz0, hz1, hz2⟩ := info_parts h2
 subst hL
 subst hC
 unfold maxLen at b3
 have hrun := run_make (P := P) w t e i z h1 hi hz0 kl kc (n : Int) (n : Int) (by omega) (Int.le_refl _) (by rw [hz2, ← Int.natCast_mul]; omega) (by omega)
 rw [hz1, hz, Int.toNat_natCast, Nat.mul_one, madeCells_one] at hrun
 unfold Oper.wp
 simp only [execOp, hop, hl, hc, hrun, Result.andThen, Sem.run_bind]
 exact hK' _ _ (hK _ (Row.allocNew w e _) (by simp) ((Keeps.refl _ _).alloc _))
theorem run_copy_str {P : Program} (w : World) (dT sT ty elem : TypeId) (hu : P.underlying dT = some (.slice elem)) (hsz : (P.info? elem).map (·.size) = some 1)
  (g dLen dCap : Nat) (str : ByteArray) (hfit : str.size ≤ dLen) (cur : List Value) (e : TypeId) (hg : Row w g e cur) (hcur : str.size ≤ cur.length) :
  (Builtin.copy_ #[dT, sT] ty #[.slice (some ⟨g, 0, none⟩) dLen dCap, .string str]).run P w =
   .ok (goInt str.size) (w.setRow g (str.data.toList.map (fun b => Value.int .u8 (b.toNat : Int)) ++ cur.drop str.size).toArray) := by
 have hmin : Nat.min str.size dLen = str.size := Nat.min_eq_left hfit
 have hlen : (str.data.toList.map fun b => Value.int .u8 (b.toNat : Int)).length = str.size := by simp
 have hst := run_storeCells_at P g 0 e (str.data.toList.map fun b => Value.int .u8 (b.toNat : Int)) 0 cur.toArray w hg (by rw [hlen]; simpa using hcur) (by intro v hv; simp at hv; obtain ⟨b, _, rfl⟩ := hv; rfl)
 rw [hlen] at hst
 simp only [Nat.add_zero, List.take_zero, List.nil_append, Nat.zero_add] at hst
 cases hq : P.info? elem with
 | none => simp [hq] at hsz
 | some i =>
  simp [Builtin.copy_, run_underlying hu, Builtin.lenOf, Builtin.firstCells, sizeOf, typeInfo, hq, hmin]
  rw [List.take_of_length_le (by omega), hst]; rfl
theorem wpList_toStr {P : Program} {w : World} {ops : Array Oper} {rest : List Oper} {o : Oper} {a : Act} {Q : Exit → Act → World → Prop} (hgd : o.guard = none) (x : Operand) (sT dT e : TypeId)
  (ho : o.op = .convert sT dT x) (hs : P.underlying sT = some (.slice e)) (he : P.underlying e = some (.int .u8)) (hd : P.underlying dT = some .string)
  (ad : Addr) (n cap : Nat) (hx : a.eval x = .slice (some ad) n cap) (l : List UInt8) (hn : l.length = n) (hc : ∀ j (hj : j < l.length), w.cell? (ad.add j) = some (.int .u8 (l[j].toNat : Int)))
  (hK : wpList P ops Q rest (a.put o.dst (.string ⟨l.toArray⟩)) w) : wpList P ops Q (o :: rest) a w := by
 refine wpList_plain hgd fun K hK' => ?_
 subst hn
 have hrun := run_convert_bytes_back (P := P) w sT dT e ad cap l hs he hd hc
 unfold Oper.wp
 simp only [execOp, ho, hx, hrun, Sem.run_bind, Result.andThen]
 exact hK' _ _ hK
theorem wpList_copy_str {P : Program} {w : World} {ops : Array Oper} {rest : List Oper} {o : Oper} {a : Act} {Q : Exit → Act → World → Prop} (hgd : o.guard = none) (d s : Operand) (dT sT : TypeId)
  (ho : o.op = .call { callee := .builtin .copy, args := #[d, s], argTypes := #[dT, sT] }) (elem : TypeId) (hu : P.underlying dT = some (.slice elem)) (hsz : (P.info? elem).map (·.size) = some 1)
  (g dLen dCap : Nat) (str : ByteArray) (hd : a.eval d = .slice (some ⟨g, 0, none⟩) dLen dCap) (hs : a.eval s = .string str) (hfit : str.size ≤ dLen)
  (cur : List Value) (e : TypeId) (hg : Row w g e cur) (hcur : str.size ≤ cur.length)
  (hK : ∀ w', Row w' g e (str.data.toList.map (fun b => Value.int .u8 (b.toNat : Int)) ++ cur.drop str.size) → w'.heap.size = w.heap.size → Keeps (fun k => k = g) w w' → wpList P ops Q rest (a.put o.dst (goInt str.size)) w') :
  wpList P ops Q (o :: rest) a w := by
 refine wpList_plain hgd fun K hK' => ?_
 have hrun := run_copy_str (P := P) w dT sT o.type elem hu hsz g dLen dCap str hfit cur e hg hcur
 unfold Oper.wp
 simp [execOp, ho, resolve, invoke, builtin, hd, hs, hrun, Result.andThen]
 exact hK' _ _ (hK _ (Row.setRow hg _) (by simp) ((Keeps.refl (fun k => k = g) w).setRow (.inr rfl) _))
end Dp
end Go.Proofs.YtdipojfngdceoaaGreatDoor

namespace Go.Proofs.YtdipojfngdceoaaGreatDoor
namespace Dp
open Go.RowKit
theorem wpList_box_row {P : Program} {w : World} {ops : Array Oper} {rest : List Oper} {o : Oper} {a : Act} {Q : Exit → Act → World → Prop} (hgd : o.guard = none) (t : TypeId) (x : Operand) (ho : o.op = .box t x)
  (cs : List Value) (hx : a.eval x = .agg cs.toArray)
  (hK : ∀ w', Row w' w.heap.size t cs → w'.heap.size = w.heap.size + 1 → Keeps (fun _ => False) w w' → wpList P ops Q rest (a.put o.dst (.pointer (some ⟨w.heap.size, 0, none⟩))) w') :
  wpList P ops Q (o :: rest) a w := by
 refine wpList_plain hgd fun K hK' => ?_
 unfold Oper.wp
 simp [execOp, ho, hx, Instr.box, newVar, newRow, Value.cells, Result.andThen]
 exact hK' _ _ (hK _ (Row.allocNew w t cs) (by simp) ((Keeps.refl _ _).alloc _))
theorem wpList_alloc_row {P : Program} {w : World} {ops : Array Oper} {rest : List Oper} {o : Oper} {a : Act} {Q : Exit → Act → World → Prop} (hgd : o.guard = none) (t : TypeId) (ho : o.op = .alloc t)
  (cs : List Value) (hz : (P.info? t).map (fun i => i.zero) = some (some (.agg cs.toArray)))
  (hK : ∀ w', Row w' w.heap.size t cs → w'.heap.size = w.heap.size + 1 → Keeps (fun _ => False) w w' → wpList P ops Q rest (a.put o.dst (.pointer (some ⟨w.heap.size, 0, none⟩))) w') :
  wpList P ops Q (o :: rest) a w := by
 refine wpList_plain hgd fun K hK' => ?_
 cases hq : P.info? t with
 | none => simp [hq] at hz
 | some i =>
  have hi : i.zero = some (.agg cs.toArray) := by simpa [hq] using hz
  unfold Oper.wp
  simp [execOp, ho, Instr.alloc, zeroValue, typeInfo, hq, hi, newVar, newRow, Value.cells, Result.andThen]
  exact hK' _ _ (hK _ (Row.allocNew w t cs) (by simp) ((Keeps.refl _ _).alloc _))
theorem wp_alloc_row {P : Program} {w : World} {o : Oper} {a : Act} {K : Act → World → Prop} {Q : Exit → Act → World → Prop} (t : TypeId) (ho : o.op = .alloc t)
  (cs : List Value) (hz : (P.info? t).map (fun i => i.zero) = some (some (.agg cs.toArray)))
  (hK : ∀ w', Row w' w.heap.size t cs → w'.heap.size = w.heap.size + 1 → Keeps (fun _ => False) w w' → K (a.put o.dst (.pointer (some ⟨w.heap.size, 0, none⟩))) w') : o.wp P a w K Q := by
 cases hq : P.info? t with
 | none => simp [hq] at hz
 | some i =>
  have hi : i.zero = some (.agg cs.toArray) := by simpa [hq] using hz
  unfold Oper.wp
  simp [execOp, ho, Instr.alloc, zeroValue, typeInfo, hq, hi, newVar, newRow, Value.cells, Result.andThen]
  exact hK _ (Row.allocNew w t cs) (by simp) ((Keeps.refl _ _).alloc _)
theorem Row.range {w : World} {g : Nat} {e : TypeId} {pre ds post : List Value} (h : Row w g e (pre ++ ds ++ post)) : w.rangeAt g pre.length ds := by
 intro j v hj
 have hlt : j < ds.length := (List.getElem?_eq_some_iff.1 hj).1
 rw [h.cell, List.append_assoc, List.getElem?_append_right (by omega), Nat.add_sub_cancel_left, List.getElem?_append_left hlt]
 exact hj
theorem Row.there {w : World} {g : Nat} {e : TypeId} {cs : List Value} (h : Row w g e cs) (off n : Nat) (hn : off + n ≤ cs.length) : w.there g off n := by
 intro j hj
 rw [h.cell, List.getElem?_eq_getElem (by omega)]
 exact ⟨rfl, h.frozen _⟩
theorem Keeps.setCells {S : Nat → Prop} {a : World} {b : Nat} : ∀ (vs : List Value) (off : Nat) (w : World), Keeps S a w → (a.heap.size ≤ b ∨ S b) → Keeps S a (w.setCells b off vs)
 | [], _, _, h, _ => h
 | v :: r, off, _, h, hb => Keeps.setCells r (off + 1) _ (h.setCell hb v) hb
theorem size_setCells (b : Nat) : ∀ (vs : List Value) (off : Nat) (w : World), (w.setCells b off vs).heap.size = w.heap.size
 | [], _, _ => rfl
 | v :: r, off, _ => by rw [World.setCells, size_setCells b r (off + 1)]; simp
theorem Row.setCells {g : Nat} {e : TypeId} : ∀ (ds vs pre post : List Value) (w : World), Row w g e (pre ++ ds ++ post) → vs.length = ds.length → Row (w.setCells g pre.length vs) g e (pre ++ vs ++ post)
 | [], [], _, _, _, h, _ => h
 | d :: ds, v :: vs, pre, post, w, h, hl => by
  have h1 := h.set pre.length v
  have e1 : (pre ++ d :: ds ++ post).set pre.length v = (pre ++ [v]) ++ ds ++ post := by simp
  rw [e1] at h1
  have h2 := Row.setCells ds vs (pre ++ [v]) post _ h1 (by simpa using hl)
  simpa [World.setCells] using h2
 | [], _ :: _, _, _, _, _, hl => by simp at hl
 | _ :: _, [], _, _, _, _, hl => by simp at hl
theorem wpList_load_in {P : Program} {w : World} {ops : Array Oper} {rest : List Oper} {o : Oper} {a : Act} {Q : Exit → Act → World → Prop} (hgd : o.guard = none) (ty : TypeId) (x : Operand) (ho : o.op = .load ty x)
  (g off : Nat) (hx : a.eval x = .pointer (some ⟨g, off, none⟩)) (e : TypeId) (pre ds post : List Value) (hr : Row w g e (pre ++ ds ++ post)) (hoff : pre.length = off) (d : TypeDesc) (hu : P.underlying ty = some d) (hd : d.isRow = true) (hi : (P.info? ty).map (·.size) = some ds.length)
  (hK : Hid True → wpList P ops Q rest (a.put o.dst (.agg ds.toArray)) w) : wpList P ops Q (o :: rest) a w :=
 wpList_load_mid hgd ty x ho g off hx ds d (hoff ▸ hr.range) hu hd hi (hK trivial)
theorem wpList_store_in {P : Program} {w : World} {ops : Array Oper} {rest : List Oper} {o : Oper} {a : Act} {Q : Exit → Act → World → Prop} (hgd : o.guard = none) (ty : TypeId) (x y : Operand) (ho : o.op = .store ty x y)
  (g off : Nat) (hx : a.eval x = .pointer (some ⟨g, off, none⟩)) (vs : List Value) (hy : a.eval y = .agg vs.toArray) (e : TypeId) (pre ds post : List Value) (hr : Row w g e (pre ++ ds ++ post)) (hoff : pre.length = off) (hl : vs.length = ds.length) (hi : (P.info? ty).map (·.size) = some vs.length) (h1 : ∀ v ∈ vs, v.oneCell' = true)
  (hK : ∀ w', Row w' g e (pre ++ vs ++ post) → w'.heap.size = w.heap.size → Keeps (fun k => k = g) w w' → wpList P ops Q rest (a.put o.dst undef) w') : wpList P ops Q (o :: rest) a w := by
 refine wpList_store_mid hgd ty x y ho g off vs.toArray hx hy ?_ (by simpa using hi) (all_oneCell_toArray h1) ?_
 ·exact hr.there off _ (by simp; omega)
 ·subst hoff
  exact hK _ (Row.setCells ds vs pre post w hr hl) (size_setCells _ _ _ _) (Keeps.setCells _ _ _ (Keeps.refl _ _) (.inr rfl))
theorem results_row_tmp {P : Program} {fn : Func} {p u : Tmp} {ty : TypeId} (h : fn.results = #[.cell p ty, .tmp u]) (tmps : Array Value) (w : World) (g : Nat) (e : TypeId) (cs : List Value) (d : TypeDesc)
  (hp : tmps.getD p undef = .pointer (some ⟨g, 0, none⟩)) (hr : Row w g e cs) (hu : P.underlying ty = some d) (hd : d.isRow = true) (hi : (P.info? ty).map (·.size) = some cs.length) :
  (results fn tmps).run P w = .ok (.tuple #[.agg cs.toArray, tmps.getD u undef]) w := by
 have hr' : Row w g e ([] ++ cs ++ []) := by simpa using hr
 have hl := run_loadVar_mid (P := P) w g 0 ty cs d hr'.range hu hd hi
 rw [results_cell_tmp h, hp]
 simp [asAddr, hl, Result.andThen]
theorem Row.drewN {w : World} {g : Nat} {e : TypeId} {cs : List Value} (h : Row w g e cs) (n : Nat) : Row (w.drewN n) g e cs := h
theorem Keeps.drewN {S : Nat → Prop} {a w : World} (h : Keeps S a w) (n : Nat) : Keeps S a (w.drewN n) := ⟨h.os, h.tape, h.output, h.size, h.block⟩
end Dp
end Go.Proofs.YtdipojfngdceoaaGreatDoor

namespace Go.Proofs.YtdipojfngdceoaaGreatDoor
namespace Dp
def sumStep (v : Int) (b : UInt8) : Int := (v * 257 + (b.toNat : Int) + 1) % 65521
def sumFrom (v : Int) (l : List UInt8) : Int := l.foldl sumStep v
def sum (l : List UInt8) : Int := sumFrom 7 l
theorem sumStep_bd (v : Int) (b : UInt8) : 0 ≤ sumStep v b ∧ sumStep v b < 65521 := by
 unfold sumStep; omega
theorem sumFrom_bd (l : List UInt8) : ∀ v : Int, 0 ≤ v ∧ v < 65521 → 0 ≤ sumFrom v l ∧ sumFrom v l < 65521 := by
 induction l with
 | nil => intro v h; exact h
 | cons b l ih => intro v _; exact ih _ (sumStep_bd v b)
theorem sum_bd (l : List UInt8) : 0 ≤ sum l ∧ sum l < 65521 := sumFrom_bd l 7 (by omega)
theorem sumFrom_append (v : Int) (l r : List UInt8) : sumFrom v (l ++ r) = sumFrom (sumFrom v l) r := by
 unfold sumFrom; exact List.foldl_append
theorem sumFrom_snoc (v : Int) (l : List UInt8) (b : UInt8) : sumFrom v (l ++ [b]) = (sumFrom v l * 257 + (b.toNat : Int) + 1) % 65521 := by
 rw [sumFrom_append]; rfl
theorem take_snoc (s : ByteArray) (k : Nat) (h : k < s.size) : s.data.toList.take (k + 1) = s.data.toList.take k ++ [s[k]] := by
 rw [List.take_succ_eq_append_getElem (by simpa using h)]; rfl
theorem ret_int {k : IntKind} {a b : Int} (h : a = b) : Ending.returned (.int k a) = .returned (.int k b) := by rw [h]
end Dp
end Go.Proofs.YtdipojfngdceoaaGreatDoor

namespace Go.Proofs.YtdipojfngdceoaaGreatDoor
namespace Dp
def isWord (x : Int) : Prop := 0 ≤ x ∧ x < 4294967296
def wrap (n : Int) : Int := n % 4294967296
theorem wrap_word (n : Int) : isWord (wrap n) := by unfold isWord wrap; omega
def signed (n : Int) : Int := if n ≥ 2147483648 then n - 4294967296 else n
def one (b : Bool) : Int := if b then 1 else 0
def byteOf (n : Int) : UInt8 := UInt8.ofNat n.toNat
def two (n : Int) : List UInt8 := [byteOf (n / 256 % 256), byteOf (n % 256)]
def four (n : Int) : List UInt8 := two (n / 65536) ++ two (n % 65536)
def str (l : List UInt8) : ByteArray := ⟨l.toArray⟩
theorem str_data (l : List UInt8) : (str l).data.toList = l := by simp [str]
theorem str_size (l : List UInt8) : (str l).size = l.length := by simp [str, ByteArray.size]
theorem str_append (l r : List UInt8) : str l ++ str r = str (l ++ r) := by apply ByteArray.ext; simp [str]
theorem two_length (n : Int) : (two n).length = 2 := rfl
theorem four_length (n : Int) : (four n).length = 4 := rfl
theorem str_toList (s : ByteArray) : str s.data.toList = s := by apply ByteArray.ext; simp [str]
structure Ins where
 op : Int
 a : Int
 b : Int
 c : Int
 n : Int
def decode (w : Int) : Ins := ⟨w / 67108864, w / 8388608 % 8, w / 1048576 % 8, w / 131072 % 8, if w % 131072 ≥ 65536 then w % 131072 - 131072 else w % 131072⟩
structure Ins.Ok (i : Ins) : Prop where
 op : 0 ≤ i.op ∧ i.op < 64
 a : 0 ≤ i.a ∧ i.a < 8
 b : 0 ≤ i.b ∧ i.b < 8
 c : 0 ≤ i.c ∧ i.c < 8
 n : -65536 ≤ i.n ∧ i.n < 65536
theorem decode_ok (w : Int) (h : isWord w) : (decode w).Ok := by
 unfold isWord at h
 refine ⟨?_, ?_, ?_, ?_, ?_⟩
 ·show 0 ≤ w / 67108864 ∧ w / 67108864 < 64; omega
 ·show 0 ≤ w / 8388608 % 8 ∧ w / 8388608 % 8 < 8; omega
 ·show 0 ≤ w / 1048576 % 8 ∧ w / 1048576 % 8 < 8; omega
 ·show 0 ≤ w / 131072 % 8 ∧ w / 131072 % 8 < 8; omega
 ·show -65536 ≤ (if w % 131072 ≥ 65536 then w % 131072 - 131072 else w % 131072) ∧ (if w % 131072 ≥ 65536 then w % 131072 - 131072 else w % 131072) < 65536
  split <;> omega
structure Cs where
 pc : Int
 steps : Int
 code : Int
 over : Bool
 regs : List Int
structure Cs.Ok (s : Cs) : Prop where
 pc : isWord s.pc
 steps : isWord s.steps
 code : isWord s.code
 len : s.regs.length = 8
 regs : ∀ x ∈ s.regs, isWord x
def Cs.reg (s : Cs) (i : Int) : Int := s.regs.getD i.toNat 0
theorem Cs.Ok.reg {s : Cs} (h : s.Ok) (i : Int) : isWord (s.reg i) := by
 unfold Cs.reg
 rw [List.getD_eq_getElem?_getD]
 cases e : s.regs[i.toNat]? with
 | none => simp [isWord]
 | some x => exact h.regs x (List.mem_of_getElem? e)
def Cs.put (s : Cs) (i v : Int) : Cs := { s with regs := s.regs.set i.toNat v }
theorem Cs.Ok.put {s : Cs} (h : s.Ok) (i v : Int) (hv : isWord v) : (s.put i v).Ok :=
 ⟨h.pc, h.steps, h.code, by simp [Cs.put, h.len], fun x hx => (List.mem_or_eq_of_mem_set hx).elim (h.regs x) (fun e => e ▸ hv)⟩
def bits (op b c : Int) : Int := if op = 4 then ((b.toNat &&& c.toNat : Nat) : Int) else if op = 5 then ((b.toNat ||| c.toNat : Nat) : Int) else ((b.toNat ^^^ c.toNat : Nat) : Int)
def shl (b c : Int) : Int := b * 2 ^ (c % 32).toNat % 4294967296
def shr (b c : Int) : Int := b / 2 ^ (c % 32).toNat
def aluOf (s : Cs) (i : Ins) : Int :=
 let b := s.reg i.b
 let c := s.reg i.c
 if i.op = 1 then wrap (b + c) else if i.op = 2 then wrap (b - c) else if i.op = 3 then wrap (b * c)
 else if i.op = 4 ∨ i.op = 5 ∨ i.op = 6 then bits i.op b c
 else if i.op = 7 then shl b c else if i.op = 8 then shr b c else if i.op = 9 then one (signed b < signed c)
 else if i.op = 10 then b / c else if i.op = 11 then wrap (b + i.n) else if i.op = 12 then wrap (i.n * 32768)
 else if i.op = 18 then wrap (s.pc + 1) else s.reg i.a
def nextOf (s : Cs) (i : Ins) : Int :=
 let a := s.reg i.a
 let b := s.reg i.b
 let next := wrap (s.pc + 1)
 if i.op = 0 then s.pc else if i.op = 15 then wrap (next + one (a == b) * i.n) else if i.op = 16 then wrap (next + one (a != b) * i.n) else if i.op = 17 then wrap (next + one (a < b) * i.n)
 else if i.op = 18 then wrap (b + i.n) else next
def isPlain (op : Int) : Bool := (0 ≤ op && op ≤ 12) || (15 ≤ op && op ≤ 18)
def plain (s : Cs) (i : Ins) : Cs × Int :=
 if !isPlain i.op then (s, 2)
 else if i.op = 10 ∧ s.reg i.c = 0 then (s, 4)
 else ({ pc := nextOf s i, steps := wrap (s.steps + 1), code := if i.op = 0 then s.reg i.a else s.code, over := if i.op = 0 then true else s.over, regs := s.regs.set i.a.toNat (aluOf s i) }, 0)
def moved (s : Cs) (i : Ins) (v : Int) (load : Bool) : Cs :=
 { pc := wrap (s.pc + 1), steps := wrap (s.steps + 1), code := s.code, over := s.over, regs := if load then s.regs.set i.a.toNat v else s.regs }
def byteAt (l : List UInt8) (at_ : Int) : Int := if at_ < l.length then ((l.getD at_.toNat 0).toNat : Int) else 0
def told (l : List UInt8) (at_ : Int) : Int := ((byteAt l at_ * 256 + byteAt l (at_ + 1)) * 256 + byteAt l (at_ + 2)) * 256 + byteAt l (at_ + 3)
def label (s : Cs) (root : Int) : List UInt8 :=
 four s.pc ++ four s.steps ++ four s.code ++ [if s.over then 1 else 0] ++ (s.regs.map four).flatten ++ two root
def stamp (s : Cs) (root : Int) : Int := sum (label s root)
def digest (cells : List Int) (at_ : Nat) : Nat → Int
 | 0 => sum (0 :: four (cells.getD at_ 0))
 | d + 1 => sum (1 :: (two (digest cells at_ d) ++ two (digest cells (at_ + 2 ^ d) d)))
def root (cells : List Int) : Int := digest cells 0 8
theorem digest_bd (cells : List Int) (at_ d : Nat) : 0 ≤ digest cells at_ d ∧ digest cells at_ d < 65521 := by
 cases d <;> exact sum_bd _
structure Mach where
 s : Cs
 cells : List Int
 srcs : List (List UInt8)
structure Mach.Ok (m : Mach) : Prop where
 s : m.s.Ok
 len : m.cells.length = 256
 cells : ∀ x ∈ m.cells, isWord x
 srcs : m.srcs.length ≤ 8
 src : ∀ x ∈ m.srcs, x.length ≤ 200
def Mach.cell (m : Mach) (n : Int) : Int := m.cells.getD n.toNat 0
theorem Mach.Ok.cell {m : Mach} (h : m.Ok) (n : Int) : isWord (m.cell n) := by
 unfold Mach.cell
 rw [List.getD_eq_getElem?_getD]
 cases e : m.cells[n.toNat]? with
 | none => simp [isWord]
 | some x => exact h.cells x (List.mem_of_getElem? e)
def findSrc (srcs : List (List UInt8)) (name : Int) : Option (List UInt8) := srcs.find? fun l => sum l == name
def Mach.step (m : Mach) : Mach × Int :=
 if m.s.over then (m, 0)
 else if m.s.pc ≥ 256 then (m, 3)
 else
  let i := decode (m.cell m.s.pc)
  if i.op = 13 ∨ i.op = 14 then
   let n := wrap (m.s.reg i.b + i.n)
   if n ≥ 256 then (m, 3)
   else if i.op = 14 then ({ m with s := moved m.s i 0 false, cells := m.cells.set n.toNat (m.s.reg i.a) }, 0)
   else ({ m with s := moved m.s i (m.cell n) true }, 0)
  else if i.op = 19 then
   match findSrc m.srcs (m.s.reg i.b) with
   | none => (m, 5)
   | some l => ({ m with s := moved m.s i (told l (m.s.reg i.c)) true }, 0)
  else ({ m with s := (plain m.s i).1 }, (plain m.s i).2)
def Mach.run : Nat → Mach → Mach × Nat × Int
 | 0, m => (m, 0, 0)
 | n + 1, m => if m.s.over then (m, 0, 0) else
   if m.step.2 ≠ 0 then (m, 0, m.step.2) else
    let r := Mach.run n m.step.1
    (r.1, r.2.1 + 1, r.2.2)
end Dp
end Go.Proofs.YtdipojfngdceoaaGreatDoor

namespace Go.Proofs.YtdipojfngdceoaaGreatDoor
namespace Dp
def bitsTo (op : Int) (X Y k : Nat) : Nat := (if op = 4 then X &&& Y else if op = 5 then X ||| Y else X ^^^ Y) % 2 ^ k
def bitZ (op x y : Int) : Int := if op = 6 then x + y - 2 * x * y else if op = 5 then x + y - x * y else x * y
theorem bit_nat (X k : Nat) : (X / 2 ^ k % 2 : Nat) = (X.testBit k).toNat := by
 rw [Nat.testBit_eq_decide_div_mod_eq]
 rcases Nat.mod_two_eq_zero_or_one (X / 2 ^ k) with h | h <;> simp [h]
theorem bitsTo_succ (op : Int) (X Y k : Nat) (hop : op = 4 ∨ op = 5 ∨ op = 6) :
  (bitsTo op X Y (k + 1) : Int) = bitsTo op X Y k + bitZ op ((X / 2 ^ k % 2 : Nat) : Int) ((Y / 2 ^ k % 2 : Nat) : Int) * ((2 ^ k : Nat) : Int) := by
 have key : ∀ Z : Nat, ((Z % 2 ^ (k + 1) : Nat) : Int) = ((Z % 2 ^ k : Nat) : Int) + ((Z.testBit k).toNat : Int) * ((2 ^ k : Nat) : Int) := by
  intro Z
  rw [Nat.pow_succ, Nat.mod_mul, ← bit_nat, Int.natCast_add, Int.natCast_mul, Int.mul_comm]
 unfold bitsTo bitZ
 rw [bit_nat, bit_nat, key]
 rcases hop with rfl | rfl | rfl
 ·rw [if_pos rfl, Nat.testBit_and]
  cases X.testBit k <;> cases Y.testBit k <;> simp
 ·rw [if_neg (by decide), if_pos rfl, Nat.testBit_or]
  cases X.testBit k <;> cases Y.testBit k <;> simp
 ·rw [if_neg (by decide), if_neg (by decide), Nat.testBit_xor]
  cases X.testBit k <;> cases Y.testBit k <;> simp
theorem bitsTo_all (op : Int) (x y : Int) (hx : isWord x) (hy : isWord y) (hop : op = 4 ∨ op = 5 ∨ op = 6) : (bitsTo op x.toNat y.toNat 32 : Int) = bits op x y := by
 unfold isWord at hx hy
 have h1 : x.toNat < 2 ^ 32 := by omega
 have h2 : y.toNat < 2 ^ 32 := by omega
 unfold bitsTo bits
 rcases hop with rfl | rfl | rfl
 ·simp only [if_pos]; rw [Nat.mod_eq_of_lt (Nat.and_lt_two_pow _ h2)]
 ·rw [if_neg (by decide), if_pos rfl, if_neg (by decide), if_pos rfl, Nat.mod_eq_of_lt (Nat.or_lt_two_pow h1 h2)]
 ·rw [if_neg (by decide), if_neg (by decide), if_neg (by decide), if_neg (by decide), Nat.mod_eq_of_lt (Nat.xor_lt_two_pow h1 h2)]
theorem bitsTo_lt (op : Int) (X Y k : Nat) : bitsTo op X Y k < 2 ^ k := Nat.mod_lt _ (Nat.two_pow_pos k)
theorem div_pow_bit (x : Int) (hx : 0 ≤ x) (k : Nat) : x / ((2 ^ k : Nat) : Int) % 2 = ((x.toNat / 2 ^ k % 2 : Nat) : Int) := by
 obtain ⟨n, rfl⟩ := Int.eq_ofNat_of_zero_le hx
 simp
def shlTo (b : Int) (k : Nat) : Int := b * ((2 ^ k : Nat) : Int) % 4294967296
theorem shlTo_succ (b : Int) (k : Nat) : wrap (2 * shlTo b k) = shlTo b (k + 1) := by
 unfold wrap shlTo
 rw [Int.mul_emod, Int.emod_emod_of_dvd _ (Int.dvd_refl _), ← Int.mul_emod, Nat.pow_succ, Int.natCast_mul, Int.mul_comm 2, Int.mul_assoc]
 rfl
theorem shlTo_word (b : Int) (k : Nat) : isWord (shlTo b k) := by unfold isWord shlTo; omega
theorem shlTo_zero (b : Int) (h : isWord b) : shlTo b 0 = b := by unfold isWord at h; unfold shlTo; simp; omega
def shrTo (b : Int) (k : Nat) : Int := b / ((2 ^ k : Nat) : Int)
theorem shrTo_succ (b : Int) (k : Nat) : shrTo b k / 2 = shrTo b (k + 1) := by
 unfold shrTo
 rw [Int.ediv_ediv_of_nonneg (Int.natCast_nonneg _), Nat.pow_succ, Int.natCast_mul]
 rfl
theorem shrTo_word (b : Int) (h : isWord b) (k : Nat) : isWord (shrTo b k) := by
 unfold isWord at *
 unfold shrTo
 have hp : (0 : Int) < ((2 ^ k : Nat) : Int) := by have := Nat.two_pow_pos k; omega
 constructor
 ·exact Int.ediv_nonneg h.1 (by omega)
 ·have := Int.ediv_le_self ((2 ^ k : Nat) : Int) h.1; omega
theorem product_eq (a b : Int) : wrap (a * (b % 65536) % 4294967296 + (a % 65536 * (b / 65536) % 4294967296) * 65536 % 4294967296) = wrap (a * b) := by
 have hb : b = b / 65536 * 65536 + b % 65536 := by omega
 have ha : a = a / 65536 * 65536 + a % 65536 := by omega
 unfold wrap
 have e : a * b = a * (b % 65536) + a % 65536 * (b / 65536) * 65536 + (a / 65536 * (b / 65536)) * 4294967296 := by
  conv => lhs; rw [hb, Int.mul_add]
  have : a * (b / 65536 * 65536) = a % 65536 * (b / 65536) * 65536 + (a / 65536 * (b / 65536)) * 4294967296 := by
   conv => lhs; rw [ha]
   rw [Int.add_mul]
   have e1 : a / 65536 * 65536 * (b / 65536 * 65536) = (a / 65536 * (b / 65536)) * 4294967296 := by
    rw [Int.mul_assoc, ← Int.mul_assoc 65536, Int.mul_comm 65536 (b / 65536), Int.mul_assoc, ← Int.mul_assoc (a / 65536)]
    rfl
   rw [e1, ← Int.mul_assoc]
   omega
  omega
 rw [e, Int.add_mul_emod_self_right]
 generalize a * (b % 65536) = p
 generalize a % 65536 * (b / 65536) = q
 omega
end Dp
end Go.Proofs.YtdipojfngdceoaaGreatDoor

namespace Go.Proofs.YtdipojfngdceoaaGreatDoor
namespace Dp
def Bytes (w : World) (v : Value) (l : List UInt8) : Prop :=
 ∃ b o ad cap, v = .slice ad l.length cap ∧ l.length ≤ maxLen ∧ (l ≠ [] → ad = some ⟨b, o, none⟩) ∧ ∀ j (h : j < l.length), w.cell? ⟨b, o + j, none⟩ = some (.int .u8 (l[j].toNat : Int))
def Parts (w : World) (v : Value) (ls : List (List UInt8)) : Prop :=
 ∃ b o ad cap, v = .slice ad ls.length cap ∧ ls.length ≤ maxLen ∧ (ls ≠ [] → ad = some ⟨b, o, none⟩) ∧ ∀ i (h : i < ls.length), ∃ vi, w.cell? ⟨b, o + i, none⟩ = some vi ∧ Bytes w vi ls[i]
end Dp
end Go.Proofs.YtdipojfngdceoaaGreatDoor

namespace Go.Proofs.YtdipojfngdceoaaGreatDoor
open Go.RowKit
set_option maxHeartbeats 400000 in
theorem digSum (v : Value) (ls : List (List UInt8)) (w : World) (hv : Dp.Parts w v ls) :
  Calls Tryz.prog 69 #[v] w fun e w' => e = .returned (.int .i64 (Dp.sum ls.flatten)) ∧ w' = w := by
 obtain ⟨b, o, ad, cap, rfl, hlen, hne, hcells⟩ := hv
 unfold maxLen at hlen
 go_enter Tryz.func69, Tryz.ntmps69
 go_wp2
 go_loop [3, 10] (fun n i => ∃ k : Nat, k ≤ ls.length ∧ i = .int .i64 k ∧ n = .int .i64 (Dp.sum (ls.take k).flatten)) (fun _ i => ls.length - (intOf i).toNat)
 case atStart => exact ⟨0, Nat.zero_le _, rfl, rfl⟩
 case round =>
  obtain ⟨k, hk, rfl, rfl⟩ := hrel
  by_cases hlt : k < ls.length
  ·have HA : ad = some ⟨b, o, none⟩ := hne (by intro e; simp [e] at hlt)
   subst HA
   obtain ⟨vi, hc, b2, o2, ad2, cap2, rfl, hlen2, hne2, hcells2⟩ := hcells k hlt
   unfold maxLen at hlen2
   have HS : Hid ((ls.take (k + 1)).flatten = (ls.take k).flatten ++ ls[k]) := by unfold Hid; rw [List.take_succ_eq_append_getElem hlt, List.flatten_append, List.flatten_singleton]
   clear hne
   go_wp2
   go_loop [3, 16] (fun n i => ∃ j : Nat, j ≤ ls[k].length ∧ i = .int .i64 j ∧ n = .int .i64 (Dp.sumFrom (Dp.sum (ls.take k).flatten) (ls[k].take j))) (fun _ i => ls[k].length - (intOf i).toNat)
   case atStart => exact ⟨0, Nat.zero_le _, rfl, rfl⟩
   case round =>
    obtain ⟨j, hj, rfl, rfl⟩ := hrel
    by_cases hlt2 : j < ls[k].length
    ·have HA : ad2 = some ⟨b2, o2, none⟩ := hne2 (by intro e; simp [e] at hlt2)
     subst HA
     have hc2 := hcells2 j hlt2
     have hd := Dp.sumFrom_bd (ls[k].take j) (Dp.sum (ls.take k).flatten) (Dp.sum_bd _)
     have hsn := Dp.sumFrom_snoc (Dp.sum (ls.take k).flatten) (ls[k].take j) ls[k][j]
     rw [← List.take_succ_eq_append_getElem hlt2] at hsn
     have HT : Hid (Dp.sumFrom (Dp.sum (ls.take k).flatten) (ls[k].take (j + 1)) = (Dp.sumFrom (Dp.sum (ls.take k).flatten) (ls[k].take j) * 257 + (ls[k][j].toNat : Int) + 1) % 65521) := hsn
     clear hsn hne2
     have hb : ls[k][j].toNat < 256 := ls[k][j].toNat_lt
     go_wp2
     go_round
     case rel => exact ⟨j + 1, by omega, by go_num, by rw [HT.out]⟩
     case measure => simp [intOf]; omega
    ·go_wp2
     go_round
     case rel => exact ⟨k + 1, by omega, by go_num, by rw [HS.out, List.take_of_length_le (show ls[k].length ≤ j by omega)]; unfold Dp.sum; rw [Dp.sumFrom_append]⟩
     case measure => simp [intOf]; omega
  ·go_wp2
   go_ret
   exact ⟨Dp.ret_int (by rw [List.take_of_length_le (by omega)]), rfl⟩
end Go.Proofs.YtdipojfngdceoaaGreatDoor

namespace Go.Proofs.YtdipojfngdceoaaGreatDoor
open Go.RowKit Dp
namespace Dp
def vals (l : List UInt8) : List Value := l.map fun b => Value.int .u8 (b.toNat : Int)
end Dp
theorem infoU8 : (Tryz.prog.info? 5).map (fun i => (i.zero, i.size, i.bytes)) = some (some (.int .u8 0), 1, 1) := by kernel_rfl
theorem sizeU8 : (Tryz.prog.info? 5).map (·.size) = some 1 := by kernel_rfl
set_option maxHeartbeats 400000 in
theorem lent_any (s : ByteArray) (w : World) (hs : s.size ≤ 16777216) :
  Calls Tryz.prog 28 #[.string s] w fun e w' => e = .returned (.slice (some ⟨w.heap.size, 0, none⟩) (s.size + 2) (s.size + 2)) ∧ Row w' w.heap.size 5 (vals (s.data.toList ++ [252, 253])) ∧ w'.heap.size = w.heap.size + 1 ∧ Keeps (fun _ => False) w w' := by
 go_enter Tryz.func28, Tryz.ntmps28
 go_wp2_with (at_make; refine wpList_make_row _ rfl _ _ 47 rfl 5 (.int .u8 0) 1 Tryz.underlying47 infoU8 rfl _ _ _ _ (s.size + 2) rfl rfl (by omega) (by omega) (by omega) (by unfold maxLen; omega) ?_)
 intro w1 r1 z1 k1
 go_wp2_with (refine wpList_copy_str rfl _ _ 47 9 rfl 5 Tryz.underlying47 sizeU8 w.heap.size (s.size + 2) (s.size + 2) s rfl rfl (by omega) _ 5 r1 (by rw [List.length_replicate]; omega) ?_)
 intro w2 r2 z2 k2
 have hl : (s.data.toList.map fun b => Value.int .u8 (b.toNat : Int)).length = s.size := by simp
 have c0 : w2.cell? ⟨w.heap.size, s.size, none⟩ = some (.int .u8 0) := by rw [r2.cell, List.getElem?_append_right (by omega), hl, Nat.sub_self]; rfl
 have c1 : w2.cell? ⟨w.heap.size, s.size + 1, none⟩ = some (.int .u8 0) := by rw [r2.cell, List.getElem?_append_right (by omega), hl, show s.size + 1 - s.size = 1 by omega]; rfl
 have f0 := r2.frozen s.size
 have f1 := r2.frozen (s.size + 1)
 clear hl
 go_wp2
 go_ret
 refine ⟨rfl, ?_, by simp [z2], ((k1.next k2 (fun i hi e => by omega)).setCell (.inl (Nat.le_refl _)) _).setCell (.inl (Nat.le_refl _)) _⟩
 have r3 := (r2.set s.size (.int .u8 252)).set (s.size + 1) (.int .u8 253)
 have hl : (s.data.toList.map fun b => Value.int .u8 (b.toNat : Int)).length = s.size := by simp
 rw [List.set_append_right _ _ (by omega), List.set_append_right _ _ (by omega), hl, Nat.sub_self, show s.size + 1 - s.size = 1 by omega] at r3
 simpa [vals] using r3
end Go.Proofs.YtdipojfngdceoaaGreatDoor
