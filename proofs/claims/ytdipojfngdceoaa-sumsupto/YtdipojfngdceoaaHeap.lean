/- Laws on memory that our walks share: what stays where it is, rows that are known whole, make, copy out of a string; they hold of every program. -/
import Derived.WalkKit
import Derived.Laws.CopyOwn
namespace Go.Proofs.Ytdipojfngdceoaa
namespace Dp
open Go.RowKit

/-- Between w and w' no block has gone, and of the old ones only those of S may have turned; the streams are as they were. -/
structure Keeps (S : Nat → Prop) (w w' : World) : Prop where
  os : w'.os = w.os
  tape : w'.tape = w.tape
  output : w'.output = w.output
  size : w.heap.size ≤ w'.heap.size
  block : ∀ k, k < w.heap.size → ¬ S k → w'.heap[k]? = w.heap[k]?

theorem Keeps.refl (S : Nat → Prop) (w : World) : Keeps S w w := ⟨rfl, rfl, rfl, Nat.le_refl _, fun _ _ _ => rfl⟩
/-- Two steps: what the second may turn is new since a, or the first's. -/
theorem Keeps.next {S T : Nat → Prop} {a b c : World} (h : Keeps S a b) (k : Keeps T b c) (hT : ∀ i, i < a.heap.size → T i → S i) : Keeps S a c :=
  ⟨k.os.trans h.os, k.tape.trans h.tape, k.output.trans h.output, Nat.le_trans h.size k.size,
   fun i hi hs => (k.block i (Nat.lt_of_lt_of_le hi h.size) (fun t => hs (hT i hi t))).trans (h.block i hi hs)⟩
theorem Keeps.trans {S : Nat → Prop} {a b c : World} (h : Keeps S a b) (k : Keeps S b c) : Keeps S a c := h.next k fun _ _ s => s
theorem Keeps.mono {S T : Nat → Prop} {w w' : World} (h : Keeps S w w') (hT : ∀ k, k < w.heap.size → S k → T k) : Keeps T w w' :=
  ⟨h.os, h.tape, h.output, h.size, fun k hk ht => h.block k hk (fun hs => ht (hT k hk hs))⟩
theorem Keeps.drew {S : Nat → Prop} {a w : World} (h : Keeps S a w) : Keeps S a w.drew := ⟨h.os, h.tape, h.output, h.size, h.block⟩
theorem Keeps.setCell {S : Nat → Prop} {a w : World} (h : Keeps S a w) {p : Addr} (hp : a.heap.size ≤ p.block ∨ S p.block) (u : Value) : Keeps S a (w.setCell p u) :=
  ⟨h.os, h.tape, h.output, by simpa using h.size, fun k hk hs => by
    have hne : k ≠ p.block := fun e => by subst e; exact hp.elim (fun h => by omega) hs
    rw [Below.heap_setCell _ _ _ _ hne]; exact h.block k hk hs⟩
theorem Keeps.alloc {S : Nat → Prop} {a w : World} (h : Keeps S a w) (o : Obj) : Keeps S a (w.alloc o) :=
  ⟨h.os, h.tape, h.output, by have := h.size; simp; omega, fun k hk hs => by rw [Below.heap_alloc _ _ _ (Nat.lt_of_lt_of_le hk h.size)]; exact h.block k hk hs⟩
theorem Keeps.setRow {S : Nat → Prop} {a w : World} (h : Keeps S a w) {g : Nat} (hp : a.heap.size ≤ g ∨ S g) (cs : Array Value) : Keeps S a (w.setRow g cs) :=
  ⟨h.os, h.tape, h.output, by simpa using h.size, fun k hk hs => by
    have hne : k ≠ g := fun e => by subst e; exact hp.elim (fun h => by omega) hs
    rw [setRow_other w g k cs hne]; exact h.block k hk hs⟩
theorem Keeps.grown {S : Nat → Prop} {a w w' : World} {row : Option Nat} (h : Keeps S a w) (hg : w.grownBy w' row) (hr : ∀ k, row = some k → k < a.heap.size → S k) : Keeps S a w' :=
  ⟨hg.os.trans h.os, hg.tape.trans h.tape, hg.output.trans h.output, Nat.le_trans h.size hg.size,
   fun k hk hs => (hg.block k (Nat.lt_of_lt_of_le hk h.size) (fun e => hs (hr k e.symm hk))).trans (h.block k hk hs)⟩
theorem Keeps.below {S : Nat → Prop} {B : Nat} {w w' : World} (h : Keeps S w w') (hS : ∀ k, k < B → ¬ S k) (hB : B ≤ w.heap.size) : Below B w w' :=
  ⟨h.os, h.tape, h.output, h.size, fun k hk => h.block k (Nat.lt_of_lt_of_le hk hB) (hS k hk)⟩
theorem Keeps.ofBelow {w w' : World} (h : Below w.heap.size w w') : Keeps (fun _ => False) w w' := ⟨h.os, h.tape, h.output, h.size, fun k hk _ => h.block k hk⟩
theorem Keeps.cell {S : Nat → Prop} {w w' : World} (h : Keeps S w w') {p : Addr} (hp : p.block < w.heap.size) (hs : ¬ S p.block) : w'.cell? p = w.cell? p := World.cell?_of_block (w := w) (h.block p.block hp hs)

/-- Block g is the row of these cells, none of them frozen. -/
def Row (w : World) (g : Nat) (e : TypeId) (cs : List Value) : Prop := w.heap[g]? = some (.cells cs.toArray e (0, 0))

theorem Row.lt {w : World} {g : Nat} {e : TypeId} {cs : List Value} (h : Row w g e cs) : g < w.heap.size := (Array.getElem?_eq_some_iff.1 h).1
theorem Row.cell {w : World} {g : Nat} {e : TypeId} {cs : List Value} (h : Row w g e cs) (i : Nat) : w.cell? ⟨g, i, none⟩ = cs[i]? := by
  unfold Row at h; simp [World.cell?, h]
theorem Row.cellAt {w : World} {g : Nat} {e : TypeId} {cs : List Value} (h : Row w g e cs) (i : Nat) (hi : i < cs.length) : w.cell? ⟨g, i, none⟩ = some cs[i] := by
  rw [h.cell]; exact List.getElem?_eq_getElem hi
theorem Row.frozen {w : World} {g : Nat} {e : TypeId} {cs : List Value} (h : Row w g e cs) (i : Nat) : w.frozen? ⟨g, i, none⟩ = false := by
  unfold Row at h; simp [World.frozen?, h]
theorem Row.keep {S : Nat → Prop} {w w' : World} {g : Nat} {e : TypeId} {cs : List Value} (h : Row w g e cs) (k : Keeps S w w') (hs : ¬ S g) : Row w' g e cs :=
  (k.block g h.lt hs).trans h
theorem Row.set {w : World} {g : Nat} {e : TypeId} {cs : List Value} (h : Row w g e cs) (i : Nat) (v : Value) : Row (w.setCell ⟨g, i, none⟩ v) g e (cs.set i v) := by
  have := heap_setCell_same w g i cs.toArray e v h
  unfold Row; rw [this]; simp
theorem Row.setOther {w : World} {g : Nat} {e : TypeId} {cs : List Value} (h : Row w g e cs) (p : Addr) (v : Value) (hp : g ≠ p.block) : Row (w.setCell p v) g e cs := by
  unfold Row; rw [Below.heap_setCell _ _ _ _ hp]; exact h
theorem Row.drew {w : World} {g : Nat} {e : TypeId} {cs : List Value} (h : Row w g e cs) : Row w.drew g e cs := h
theorem Row.allocOld {w : World} {g : Nat} {e : TypeId} {cs : List Value} (h : Row w g e cs) (o : Obj) : Row (w.alloc o) g e cs := by
  unfold Row; rw [Below.heap_alloc _ _ _ h.lt]; exact h
theorem Row.allocNew (w : World) (e : TypeId) (cs : List Value) : Row (w.alloc (.cells cs.toArray e (0, 0))) w.heap.size e cs := heap_alloc_new w _
theorem Row.setRow {w : World} {g : Nat} {e : TypeId} {cs : List Value} (h : Row w g e cs) (ds : List Value) : Row (w.setRow g ds.toArray) g e ds :=
  setRow_heap w g _ _ e _ h

theorem ownsRow_keep {S : Nat → Prop} {w w' : World} {base : Nat} {e : TypeId} {size : Nat} {v : Value} {n : Nat} {xs : List Value} (h : w.ownsRow base e size v n xs) (k : Keeps S w w') (hs : ∀ g, v.ownBlock = some g → ¬ S g) : w'.ownsRow base e size v n xs := by
  obtain ⟨h1, h2⟩ := h
  refine ⟨h1, ?_⟩
  rcases h2 with h2 | ⟨g, cap, cur, hv, hg, hh, r⟩
  · exact Or.inl h2
  · refine Or.inr ⟨g, cap, cur, hv, hg, ?_, r⟩
    rw [k.block g (Array.getElem?_eq_some_iff.1 hh).1 (hs g (by rw [hv]; rfl))]; exact hh
/-- An owned row and a row of another element type are two blocks. -/
theorem ownsRow_ne {w : World} {base : Nat} {e f : TypeId} {size : Nat} {v : Value} {n : Nat} {xs cs : List Value} {b : Nat} (h : w.ownsRow base e size v n xs) (hb : Row w b f cs) (hef : f ≠ e) : ∀ g, v.ownBlock = some g → g ≠ b := by
  intro g hg e1
  subst e1
  rcases h.2 with ⟨rfl, _⟩ | ⟨g', cap, cur, hv, _, hh, _⟩
  · simp [Value.ownBlock] at hg
  · rw [hv] at hg; simp [Value.ownBlock] at hg; subst hg
    unfold Row at hb; rw [hb] at hh; simp at hh; exact hef hh.2
theorem Row.ne {w : World} {g b : Nat} {e f : TypeId} {xs ys : List Value} (h : Row w g e xs) (k : Row w b f ys) (hef : e ≠ f) : g ≠ b := by
  intro e1; subst e1; unfold Row at h k; rw [h] at k; simp at k; exact hef k.2

/-- A row that is turned over from its head on, one cell more. -/
theorem fill_step (L : List Value) (j : Nat) (x : Value) (hj : j < L.length) : (List.replicate j x ++ L.drop j).set j x = List.replicate (j + 1) x ++ L.drop (j + 1) := by
  rw [List.set_append_right _ _ (by simp), List.length_replicate, Nat.sub_self, List.drop_eq_getElem_cons hj, List.set_cons_zero]
  have e : List.replicate (j + 1) x = List.replicate j x ++ [x] := List.replicate_succ'
  rw [e, List.append_assoc]; rfl
theorem fill_cell {w : World} {g : Nat} {e : TypeId} {L : List Value} {j : Nat} {x : Value} (h : Row w g e (List.replicate j x ++ L.drop j)) (hj : j < L.length) : w.cell? ⟨g, j, none⟩ = some L[j] := by
  rw [h.cell, List.getElem?_append_right (by simp)]; simp

theorem add_zero_off (g j : Nat) : (⟨g, 0, none⟩ : Addr).add j = ⟨g, j, none⟩ := by unfold Addr.add; split <;> simp_all

theorem madeCells_one (z : Value) (n : Nat) : madeCells #[z] n = (List.replicate n z).toArray := by
  unfold madeCells
  apply Array.ext
  · simp
  · intro i h1 h2; simp [Nat.mod_one]

/-- 'make([]T, n)' of elements of one cell: a new block, the row of n zero values. -/
theorem wpList_make_row {P : Program} (w : World) {ops : Array Oper} {rest : List Oper} {o : Oper} {a : Act} {Q : Exit → Act → World → Prop}
    (hg : o.guard = none) (l c : Operand) (t : TypeId) (hop : o.op = Op.makeSlice t l c)
    (e : TypeId) (z : Value) (bytes : Nat) (h1 : P.underlying t = some (.slice e)) (h2 : (P.info? e).map (fun i => (i.zero, i.size, i.bytes)) = some (some z, 1, bytes)) (hz : z.cells = #[z])
    (kl kc : IntKind) (L C : Int) (n : Nat) (hl : a.eval l = .int kl L) (hc : a.eval c = .int kc C) (hL : L = (n : Int)) (hC : C = (n : Int)) (b2 : bytes * n ≤ 281474976710656) (b3 : n ≤ maxLen)
    (hK : ∀ w', Row w' w.heap.size e (List.replicate n z) → w'.heap.size = w.heap.size + 1 → Keeps (fun _ => False) w w' → wpList P ops Q rest (a.put o.dst (.slice (some ⟨w.heap.size, 0, none⟩) n n)) w') :
    wpList P ops Q (o :: rest) a w := by
  refine wpList_plain hg fun K hK' => ?_
  obtain ⟨i, hi, hz0, hz1, hz2⟩ := info_parts h2
  subst hL
  subst hC
  unfold maxLen at b3
  have hrun := run_make (P := P) w t e i z h1 hi hz0 kl kc (n : Int) (n : Int) (by omega) (Int.le_refl _) (by rw [hz2, ← Int.natCast_mul]; omega) (by omega)
  rw [hz1, hz, Int.toNat_natCast, Nat.mul_one, madeCells_one] at hrun
  unfold Oper.wp
  simp only [execOp, hop, hl, hc, hrun, Result.andThen, Sem.run_bind]
  exact hK' _ _ (hK _ (Row.allocNew w e _) (by simp) ((Keeps.refl _ _).alloc _))

/-- 'copy(row, s)', s a string that fits: its bytes lie at the row's head. -/
theorem run_copy_str {P : Program} (w : World) (dT sT ty elem : TypeId) (hu : P.underlying dT = some (.slice elem)) (hsz : (P.info? elem).map (·.size) = some 1)
    (g dLen dCap : Nat) (str : ByteArray) (hfit : str.size ≤ dLen) (cur : List Value) (e : TypeId) (hg : Row w g e cur) (hcur : str.size ≤ cur.length) :
    (Builtin.copy_ #[dT, sT] ty #[.slice (some ⟨g, 0, none⟩) dLen dCap, .string str]).run P w =
      .ok (goInt str.size) (w.setRow g (str.data.toList.map (fun b => Value.int .u8 (b.toNat : Int)) ++ cur.drop str.size).toArray) := by
  have hmin : Nat.min str.size dLen = str.size := Nat.min_eq_left hfit
  have hlen : (str.data.toList.map fun b => Value.int .u8 (b.toNat : Int)).length = str.size := by simp
  have hst := run_storeCells_at P g 0 e (str.data.toList.map fun b => Value.int .u8 (b.toNat : Int)) 0 cur.toArray w hg (by rw [hlen]; simpa using hcur) (by intro v hv; simp at hv; obtain ⟨b, _, rfl⟩ := hv; rfl)
  rw [hlen] at hst
  simp only [Nat.add_zero, List.take_zero, List.nil_append, Nat.zero_add] at hst
  cases hq : P.info? elem with
  | none => simp [hq] at hsz
  | some i =>
    simp [Builtin.copy_, run_underlying hu, Builtin.lenOf, Builtin.firstCells, sizeOf, typeInfo, hq, hmin]
    rw [List.take_of_length_le (by omega), hst]; rfl

/-- 'string(b)' of bytes that are known. -/
theorem wpList_toStr {P : Program} {w : World} {ops : Array Oper} {rest : List Oper} {o : Oper} {a : Act} {Q : Exit → Act → World → Prop} (hgd : o.guard = none) (x : Operand) (sT dT e : TypeId)
    (ho : o.op = .convert sT dT x) (hs : P.underlying sT = some (.slice e)) (he : P.underlying e = some (.int .u8)) (hd : P.underlying dT = some .string)
    (ad : Addr) (n cap : Nat) (hx : a.eval x = .slice (some ad) n cap) (l : List UInt8) (hn : l.length = n) (hc : ∀ j (hj : j < l.length), w.cell? (ad.add j) = some (.int .u8 (l[j].toNat : Int)))
    (hK : wpList P ops Q rest (a.put o.dst (.string ⟨l.toArray⟩)) w) : wpList P ops Q (o :: rest) a w := by
  refine wpList_plain hgd fun K hK' => ?_
  subst hn
  have hrun := run_convert_bytes_back (P := P) w sT dT e ad cap l hs he hd hc
  unfold Oper.wp
  simp only [execOp, ho, hx, hrun, Sem.run_bind, Result.andThen]
  exact hK' _ _ hK

theorem wpList_copy_str {P : Program} {w : World} {ops : Array Oper} {rest : List Oper} {o : Oper} {a : Act} {Q : Exit → Act → World → Prop} (hgd : o.guard = none) (d s : Operand) (dT sT : TypeId)
    (ho : o.op = .call { callee := .builtin .copy, args := #[d, s], argTypes := #[dT, sT] }) (elem : TypeId) (hu : P.underlying dT = some (.slice elem)) (hsz : (P.info? elem).map (·.size) = some 1)
    (g dLen dCap : Nat) (str : ByteArray) (hd : a.eval d = .slice (some ⟨g, 0, none⟩) dLen dCap) (hs : a.eval s = .string str) (hfit : str.size ≤ dLen)
    (cur : List Value) (e : TypeId) (hg : Row w g e cur) (hcur : str.size ≤ cur.length)
    (hK : ∀ w', Row w' g e (str.data.toList.map (fun b => Value.int .u8 (b.toNat : Int)) ++ cur.drop str.size) → w'.heap.size = w.heap.size → Keeps (fun k => k = g) w w' → wpList P ops Q rest (a.put o.dst (goInt str.size)) w') :
    wpList P ops Q (o :: rest) a w := by
  refine wpList_plain hgd fun K hK' => ?_
  have hrun := run_copy_str (P := P) w dT sT o.type elem hu hsz g dLen dCap str hfit cur e hg hcur
  unfold Oper.wp
  simp [execOp, ho, resolve, invoke, builtin, hd, hs, hrun, Result.andThen]
  exact hK' _ _ (hK _ (Row.setRow hg _) (by simp) ((Keeps.refl (fun k => k = g) w).setRow (.inr rfl) _))

end Dp
end Go.Proofs.Ytdipojfngdceoaa
