/- Steps on the way: MovesCells, KeepHonest1, PureCollide, PureSmall. -/
import Derived.Test.YtdipojfngdceoabGreatDoorPack78
import Derived.Test.YtdipojfngdceoabGreatDoorPack83
import Derived.Test.YtdipojfngdceoabGreatDoorPack90
import Derived.Test.YtdipojfngdceoabGreatDoorPack91
import Derived.Lib.LazyBuf
/- Lists of moves in memory. -/
namespace Go.Proofs.YtdipojfngdceoabGreatDoor
open Go.RowKit

namespace Dp
def mvCells : List (Int × Bool) → List Value
  | [] => []
  | m :: ms => .int .i64 m.1 :: .bool m.2 :: mvCells ms
theorem numFrom_bd16 (ms : List (Int × Bool)) (h : ms.length ≤ 16) : 0 ≤ numFrom ms 0 ∧ numFrom ms 0 ≤ 65536 := by
  have hb := numFrom_bd ms 0 0 (Int.le_refl _) (by decide)
  have hp : (2 : Int) ^ (0 + ms.length) = ((2 ^ ms.length : Nat) : Int) := by rw [Nat.zero_add]; push_cast; rfl
  have h16 : 2 ^ ms.length ≤ 2 ^ 16 := Nat.pow_le_pow_right (by decide) h
  rw [hp] at hb
  omega
theorem mvCells_length : ∀ ms : List (Int × Bool), (mvCells ms).length = ms.length * 2
  | [] => rfl
  | m :: ms => by simp only [mvCells, List.length_cons, mvCells_length ms]; omega
theorem mvCells_fst : ∀ (ms : List (Int × Bool)) (i : Nat) (h : i < ms.length), (mvCells ms)[i * 2]? = some (.int .i64 ms[i].1)
  | [], i, h => absurd h (by simp)
  | m :: ms, 0, h => rfl
  | m :: ms, i + 1, h => by
    rw [show (i + 1) * 2 = i * 2 + 1 + 1 by omega]
    simpa [mvCells] using mvCells_fst ms i (by simpa using h)
theorem mvCells_snd : ∀ (ms : List (Int × Bool)) (i : Nat) (h : i < ms.length), (mvCells ms)[i * 2 + 1]? = some (.bool ms[i].2)
  | [], i, h => absurd h (by simp)
  | m :: ms, 0, h => rfl
  | m :: ms, i + 1, h => by
    rw [show (i + 1) * 2 + 1 = i * 2 + 1 + 1 + 1 by omega]
    simpa [mvCells] using mvCells_snd ms i (by simpa using h)
theorem mvCells_one : ∀ (ms : List (Int × Bool)), ∀ v ∈ mvCells ms, v.oneCell' = true
  | [], v, h => absurd h (by simp [mvCells])
  | m :: ms, v, h => by
    simp only [mvCells, List.mem_cons] at h
    rcases h with rfl | rfl | h
    · rfl
    · rfl
    · exact mvCells_one ms v h
theorem mvCells_inv (ms : List (Int × Bool)) (j : Nat) (v : Value) (h : (mvCells ms)[j]? = some v) : ∃ i, ∃ hi : i < ms.length, (j = i * 2 ∧ v = .int .i64 ms[i].1) ∨ (j = i * 2 + 1 ∧ v = .bool ms[i].2) := by
  have hj := (List.getElem?_eq_some_iff.1 h).1
  rw [mvCells_length] at hj
  have hi : j / 2 < ms.length := by omega
  refine ⟨j / 2, hi, ?_⟩
  rcases (by omega : j = j / 2 * 2 ∨ j = j / 2 * 2 + 1) with e | e
  · left; refine ⟨e, ?_⟩
    have := mvCells_fst ms (j / 2) hi
    rw [← e, h] at this
    exact Option.some.inj this
  · right; refine ⟨e, ?_⟩
    have := mvCells_snd ms (j / 2) hi
    rw [← e, h] at this
    exact Option.some.inj this
end Dp
theorem infoMove : (Tryz.prog.info? 32).map (fun i => (i.zero, i.size, i.bytes)) = some (some (.agg #[.int .i64 0, .bool false]), 2, 16) := by kernel_rfl

namespace Dp
theorem mvCells_snoc : ∀ (ms : List (Int × Bool)) (x : Int) (b : Bool), mvCells ms ++ [.int .i64 x, .bool b] = mvCells (ms ++ [(x, b)])
  | [], _, _ => rfl
  | m :: ms, x, b => by simp only [mvCells, List.cons_append, mvCells_snoc ms x b]
theorem moves_of_rows {w : World} {base : Nat} {e : TypeId} {v : Value} {ms : List (Int × Bool)} (h : w.ownsRow base e 2 v ms.length (mvCells ms)) (hl : ms.length ≤ 16777216) : Moves w v ms := by
  obtain ⟨b, cap, h1, h2, h3⟩ := ownsRow_cell h
  by_cases he : ms = []
  · subst he
    obtain ⟨ad, hv⟩ := h2 rfl (by omega)
    exact ⟨0, 0, ad, cap, hv, by simp, fun e => absurd rfl e, fun i hi => absurd hi (by simp)⟩
  · have hne : mvCells ms ≠ [] := by
      cases ms with
      | nil => exact absurd rfl he
      | cons m r => simp [mvCells]
    refine ⟨b, 0, some ⟨b, 0, none⟩, cap, h1 hne, hl, fun _ => rfl, fun i hi => ⟨?_, ?_⟩⟩
    · rw [Nat.zero_add]; exact h3 _ _ (mvCells_fst ms i hi)
    · rw [Nat.zero_add]; exact h3 _ _ (mvCells_snd ms i hi)
end Dp
end Go.Proofs.YtdipojfngdceoabGreatDoor

/- One who says the right stamps is upheld: what lies in memory. -/
namespace Go.Proofs.YtdipojfngdceoabGreatDoor
open Go.RowKit

namespace Dp
/-- The slice value v holds just these bools, however many. -/
def BoolsW (w : World) (v : Value) (l : List Bool) : Prop :=
  ∃ b o ad cap, v = .slice ad l.length cap ∧ l.length ≤ maxLen ∧ (l ≠ [] → ad = some ⟨b, o, none⟩ ∧ b < w.heap.size) ∧ ∀ i (h : i < l.length), w.cell? ⟨b, o + i, none⟩ = some (.bool l[i])
def boolCells (l : List Bool) : List Value := l.map Value.bool
theorem own_bools {w : World} {e : TypeId} {v : Value} {l : List Bool} (h : Own w e v (boolCells l)) (hl : l.length ≤ 16777216) : Bools w v l := by
  rcases h with ⟨rfl, h2⟩ | ⟨g, tail, rfl, h2, h3⟩
  · have : l = [] := by cases l with
      | nil => rfl
      | cons a b => simp [boolCells] at h2
    subst this
    exact ⟨0, 0, none, 0, rfl, by simp, fun e => absurd rfl e, fun j hj => absurd hj (by simp)⟩
  · have hx : (boolCells l).length = l.length := by simp [boolCells]
    rw [hx]
    refine ⟨g, 0, some ⟨g, 0, none⟩, _, rfl, hl, fun _ => rfl, fun i hi => ?_⟩
    rw [h2.cell, Nat.zero_add, List.getElem?_append_left (by omega)]
    simp [boolCells, hi]
theorem own_stamp {w : World} {e : TypeId} {v : Value} {m : Mach} {n : Nat} (h : Own w e v (regCells (stList m n))) (hn : 0 < n) : ∃ g cap, v = .slice (some ⟨g, 0, none⟩) n cap ∧ ∀ i, i < n → w.cell? ⟨g, i, none⟩ = some (.int .i64 (stAt m i)) := by
  have hx : (regCells (stList m n)).length = n := by rw [regCells_len, stList_length]
  rcases h with ⟨_, h2⟩ | ⟨g, tail, hv, h2, h3⟩
  · rw [h2] at hx; simp at hx; omega
  · rw [hx] at hv
    refine ⟨g, _, hv, fun i hi => ?_⟩
    rw [h2.cell, List.getElem?_append_left (by omega)]
    simp [regCells, stList, hi]
theorem settled_fair (D : Nat) (hD : D ≤ 7) (m : Mach) (hm : m.Ok) (hgo : Goes m (2 ^ D)) (ms : List (Int × Bool)) (hl : ms.length = D) (at_ : Nat) (h : Left2 (stAt m) D (stAt m (2 ^ D)) ms at_ 1) (hr : (endsOf ms (stAt m 0) (stAt m (2 ^ D))).2 = stAt m (at_ + 1)) :
    settled D (stAt m 0) (stAt m (2 ^ D)) ms (witnessOf (Mach.after m at_)) = (verdictCells (stAt m at_) (stAt m (at_ + 1)) at_ true, 0) := by
  have hle := h.le
  have h0 : (Mach.after m at_).step.2 = 0 := hgo at_ (by omega)
  have hck := checked_own (Mach.after m at_) (hm.after at_)
  unfold told1 told2 at hck
  rw [if_pos h0, if_pos h0] at hck
  have hnum := h.num
  have hck' : checked (stAt m at_) (witnessOf (Mach.after m at_)) = (stAt m (at_ + 1), 0) := hck
  unfold settled
  rw [if_neg (by omega), if_neg (by rw [hl]; simp), h.fst, hr, hck']
  have hn1 : numFrom ms 0 = (at_ : Int) := by simpa using hnum
  rw [hn1]
  simp
end Dp
namespace Dp
/-- What lies in memory ahead of a round. -/
structure HonL (w wr : World) (B b : Nat) (G : Nat → Prop) (vs : Value) (M : Mach) (D gr : Nat) (ms : List (Int × Bool)) (at_ size : Nat) (vm va : Value) : Prop where
  left : Left2 (stAt M) D (stAt M (2 ^ D)) ms at_ size
  right : (endsOf ms (stAt M 0) (stAt M (2 ^ D))).2 = stAt M (at_ + size)
  rows : wr.ownsRow B 32 2 vm ms.length (mvCells ms)
  own : Own wr 4 va (boolCells (ms.map (·.2)))
  new : ∀ g, va.ownBlock = some g → B ≤ g
  mach : ProgM wr b G vs M
  st : ∀ i, i < 2 ^ D + 1 → wr.cell? ⟨gr, i, none⟩ = some (.int .i64 (stAt M i))
  keep : Keeps (fun _ => False) w wr
  siz : B ≤ wr.heap.size
theorem rows_block {w : World} {base : Nat} {e : TypeId} {size : Nat} {v : Value} {n : Nat} {xs : List Value} (h : w.ownsRow base e size v n xs) : ∀ g, v.ownBlock = some g → base ≤ g ∧ ∃ cur, w.heap[g]? = some (.cells cur e (0, 0)) := by
  intro g hg
  obtain ⟨_, ⟨hv, _⟩ | ⟨g', cap, cur, hv, hb, hh, _⟩⟩ := h
  · rw [hv] at hg; simp [Value.ownBlock] at hg
  · rw [hv] at hg; simp [Value.ownBlock] at hg
    subst hg
    exact ⟨hb, cur, hh⟩
theorem own_block {w : World} {e : TypeId} {v : Value} {xs : List Value} (h : Own w e v xs) : ∀ g, v.ownBlock = some g → ∃ cur, w.heap[g]? = some (.cells cur e (0, 0)) := by
  intro g hg
  rcases h with ⟨rfl, _⟩ | ⟨g', t, rfl, r, _⟩
  · simp [Value.ownBlock] at hg
  · simp [Value.ownBlock] at hg
    subst hg
    exact ⟨_, r⟩
theorem two_types {w : World} {g : Nat} {e f : TypeId} {c d : Array Value} (h : w.heap[g]? = some (.cells c e (0, 0))) (h2 : w.heap[g]? = some (.cells d f (0, 0))) (hef : e ≠ f) : False := by
  rw [h] at h2
  simp at h2
  exact hef h2.2
theorem HonL.still {w wr w' : World} {B b : Nat} {G : Nat → Prop} {vs : Value} {M : Mach} {D gr : Nat} {ms : List (Int × Bool)} {at_ size : Nat} {vm va : Value} (h : HonL w wr B b G vs M D gr ms at_ size vm va) (k : Keeps (fun _ => False) wr w') : HonL w w' B b G vs M D gr ms at_ size vm va :=
  ⟨h.left, h.right, ownsRow_keep h.rows k (fun _ _ e => e), h.own.keep k (fun _ _ e => e), h.new, h.mach.keep k (fun e => e) (fun _ _ e => e), fun i hi => (k.cell (p := ⟨gr, i, none⟩) (cell_lt (h.st i hi)) (fun e => e)).trans (h.st i hi), h.keep.trans k, Nat.le_trans h.siz k.size⟩
theorem HonL.grow {w wr w1 w2 w3 w4 : World} {B b : Nat} {G : Nat → Prop} {vs : Value} {M : Mach} {D gr : Nat} {ms : List (Int × Bool)} {at_ size : Nat} {vm va vm' va' : Value} {x : Int} {lf : Bool} (h : HonL w wr B b G vs M D gr ms at_ size vm va)
    (hB : w.heap.size ≤ B) (hb : b < B) (hgr : gr < B) (hG : ∀ q, G q → q < B) (hx : x = stAt M (at_ + size / 2)) (hl : ms.length < D)
    (k1 : Keeps (fun _ => False) wr w1) (rows' : w2.ownsRow B 32 2 vm' (ms.length + 1) (mvCells ms ++ [.int .i64 x, .bool lf])) (k2 : Keeps (fun k => vm.ownBlock = some k) w1 w2) (k3 : Keeps (fun _ => False) w2 w3)
    (own' : Own w4 4 va' (boolCells (ms.map (·.2)) ++ [.bool lf])) (k4 : Keeps (fun k => va.ownBlock = some k) w3 w4) (hf : va'.ownBlock = va.ownBlock ∨ ∀ q, va'.ownBlock = some q → B ≤ q) :
    HonL w w4 B b G vs M D gr (ms ++ [(x, lf)]) (if lf then at_ else at_ + size / 2) (size / 2) vm' va' := by
  have h1 := h.still k1
  have hvm : ∀ g, vm.ownBlock = some g → B ≤ g := fun g hg => (rows_block h1.rows g hg).1
  have own2 : Own w2 4 va (boolCells (ms.map (·.2))) := h1.own.keep k2 (fun g hg e => by
    obtain ⟨c, hc⟩ := own_block h1.own g hg
    obtain ⟨_, d, hd⟩ := rows_block h1.rows g e
    exact two_types hc hd (by decide))
  have own3 := own2.keep k3 (fun _ _ e => e)
  have rows3 := ownsRow_keep rows' k3 (fun _ _ e => e)
  have rows4 := ownsRow_keep rows3 k4 (fun g hg e => by
    obtain ⟨c, hc⟩ := own_block own3 g e
    obtain ⟨_, d, hd⟩ := rows_block rows3 g hg
    exact two_types hc hd (by decide))
  have k24 : ∀ g, g < B → ¬ (vm.ownBlock = some g) ∧ ¬ (va.ownBlock = some g) := fun g hg => ⟨fun e => by have := hvm g e; omega, fun e => by have := h.new g e; omega⟩
  have m2 := h1.mach.keep k2 (k24 b hb).1 (fun q hq => (k24 q (hG q hq)).1)
  have m3 := m2.keep k3 (fun e => e) (fun _ _ e => e)
  have m4 := m3.keep k4 (k24 b hb).2 (fun q hq => (k24 q (hG q hq)).2)
  have s2 := k2.size
  have s3 := k3.size
  have s4 := k4.size
  have hs1 := h1.siz
  refine ⟨?_, ?_, ?_, ?_, ?_, m4, ?_, ?_, by omega⟩
  · exact h.left.step hl x lf (fun _ => hx)
  · rw [hx]; exact h.left.right hl lf h.right
  · rw [List.length_append, ← mvCells_snoc]; exact rows4
  · have e : boolCells ((ms ++ [(x, lf)]).map (·.2)) = boolCells (ms.map (·.2)) ++ [.bool lf] := by simp [boolCells]
    rw [e]; exact own'
  · intro g hg
    rcases hf with e | e
    · rw [e] at hg; exact h.new g hg
    · exact e g hg
  · intro i hi
    have c1 := h1.st i hi
    have c2 := (k2.cell (p := ⟨gr, i, none⟩) (cell_lt c1) (k24 gr hgr).1).trans c1
    have c3 := (k3.cell (p := ⟨gr, i, none⟩) (cell_lt c2) (fun e => e)).trans c2
    exact (k4.cell (p := ⟨gr, i, none⟩) (cell_lt c3) (k24 gr hgr).2).trans c3
  · exact ((h1.keep.next k2 (fun g hg e => by have := hvm g e; omega)).trans k3).next k4 (fun g hg e => by have := h.new g e; omega)
theorem HonL.own2 {w wr w1 w2 : World} {B b : Nat} {G : Nat → Prop} {vs : Value} {M : Mach} {D gr : Nat} {ms : List (Int × Bool)} {at_ size : Nat} {vm va : Value} (h : HonL w wr B b G vs M D gr ms at_ size vm va) (k1 : Keeps (fun _ => False) wr w1) (k2 : Keeps (fun k => vm.ownBlock = some k) w1 w2) : Own w2 4 va (boolCells (ms.map (·.2))) := by
  have h1 := h.still k1
  exact h1.own.keep k2 (fun g hg e => by
    obtain ⟨c, hc⟩ := own_block h1.own g hg
    obtain ⟨_, d, hd⟩ := rows_block h1.rows g e
    exact two_types hc hd (by decide))
theorem Left2.asked {L : Nat → Int} {D : Nat} {last : Int} {ms : List (Int × Bool)} {at_ size : Nat} (h : Left2 L D last ms at_ size) : askedFrom (ms.map (·.2)) D (ms.map (·.2)).length + ((2 ^ (D - (ms.map (·.2)).length) : Nat) : Int) / 2 = ((at_ + size / 2 : Nat) : Int) := by
  have h1 := h.middle
  have h2 := h.siz
  unfold askedFrom
  rw [List.take_length, List.length_map, ← h2, h1]
  omega
theorem wp_store_in {P : Program} {w : World} {o : Oper} {a : Act} {K : Act → World → Prop} {Q : Exit → Act → World → Prop} (ty : TypeId) (x y : Operand) (ho : o.op = .store ty x y)
    (g off : Nat) (hx : a.eval x = .pointer (some ⟨g, off, none⟩)) (vs : List Value) (hy : a.eval y = .agg vs.toArray) (e : TypeId) (pre ds post : List Value) (hr : Row w g e (pre ++ ds ++ post)) (hoff : pre.length = off) (hl : vs.length = ds.length) (hi : (P.info? ty).map (·.size) = some vs.length) (h1 : ∀ v ∈ vs, v.oneCell' = true)
    (hK : ∀ w', Row w' g e (pre ++ vs ++ post) → w'.heap.size = w.heap.size → Keeps (fun k => k = g) w w' → K (a.put o.dst undef) w') : o.wp P a w K Q := by
  refine wp_store_mid ty x y ho g off vs.toArray hx hy ?_ (by simpa using hi) (all_oneCell_toArray h1) ?_
  · exact hr.there off _ (by simp; omega)
  · subst hoff
    exact hK _ (Row.setCells ds vs pre post w hr hl) (size_setCells _ _ _ _) (Keeps.setCells _ _ _ (Keeps.refl _ _) (.inr rfl))

end Dp

theorem honAnswer {w wr : World} {B b : Nat} {G : Nat → Prop} {vs : Value} {M : Dp.Mach} {D gr : Nat} {ms : List (Int × Bool)} {at_ size : Nat} {vm va : Value} (h : Dp.HonL w wr B b G vs M D gr ms at_ size vm va) (hgo : Dp.Goes M (2 ^ D)) (hl : ms.length < D) (hD : D ≤ 7) :
    Calls Tryz.prog 88 #[.pointer (some ⟨b, 0, none⟩), .int .i64 D, va] wr fun e w' => e = .returned (.tuple #[.int .i64 (Dp.stAt M (at_ + size / 2)), .int .i64 0]) ∧ Dp.Keeps (fun _ => False) wr w' := by
  have hle := h.left.le
  obtain ⟨h1, h2⟩ := h.left.half hl
  have hP : 2 ^ D ≤ 2 ^ 7 := Nat.pow_le_pow_right (by decide) hD
  obtain ⟨e1, e2⟩ := Dp.run_goes (at_ + size / 2) M (fun i hi => hgo i (by omega))
  have hc := progMAnswer wr b G vs M h.mach D va (ms.map (·.2)) (Dp.own_bools h.own (by rw [List.length_map]; omega)) (by rw [List.length_map]; exact hl) (by omega) (at_ + size / 2) h.left.asked (by omega) e2
  rw [e1] at hc
  exact hc
end Go.Proofs.YtdipojfngdceoabGreatDoor

/- A witness that is taken for another step than the machine's parts from the machine's own where two texts have one sum. No program is named here. -/
namespace Go.Proofs.YtdipojfngdceoabGreatDoor
namespace Dp
theorem heard_own (m : Mach) (hok : m.Ok) (h5 : m.step.2 ≠ 5) : ∃ T', heard (stamp m.s (root m.cells)) (label m.s (root m.cells) ++ shown m) = some (m.step.1.s, ⟨[], root m.step.1.cells, T'⟩, m.step.2) := by
  have hb := root_bd m.cells
  obtain ⟨e1, e2, e3⟩ := unlab_label m.s (root m.cells) (shown m) hok.s (by omega)
  have hlen : (label m.s (root m.cells)).length = 47 := label_length _ _ hok.s.len
  have hdrop : (label m.s (root m.cells) ++ shown m).drop 47 = shown m := by
    have := List.drop_left (l₁ := label m.s (root m.cells)) (l₂ := shown m)
    rwa [hlen] at this
  obtain ⟨x, h1, h2⟩ := coreStep_record m []
  have hsh : shown m = x := by unfold shown; rw [h1]; rfl
  obtain ⟨T', h3⟩ := h2 h5 hok [] []
  rw [List.append_nil] at h3
  refine ⟨T', ?_⟩
  unfold heard
  rw [if_pos ⟨by rw [List.length_append, hlen]; omega, e3, by rw [e1, e2]; rfl⟩, e1, e2, hdrop, hsh, h3]
  simp
theorem heard_ok {S : Int} {l : List UInt8} (h : (checked S l).2 = 0) : ∃ r, heard S l = some r ∧ r.2.2 = 0 ∧ (checked S l).1 = stamp r.1 r.2.1.root := by
  unfold checked at h ⊢
  cases hr : heard S l with
  | none => rw [hr] at h; simp [toldBy] at h
  | some r =>
    rw [hr] at h
    unfold toldBy at h ⊢
    by_cases h0 : r.2.2 = 0
    · exact ⟨r, rfl, h0, by simp [h0]⟩
    · simp [h0] at h
/-- The texts of the machine's own account, and those of one that is taken for another step, part. -/
theorem collide (m : Mach) (hok : m.Ok) (l : List UInt8) (h5 : m.step.2 ≠ 5) (h0 : (checked (stamp m.s (root m.cells)) l).2 = 0) (hd : ¬ (m.step.2 = 0 ∧ stamp m.step.1.s (root m.step.1.cells) = (checked (stamp m.s (root m.cells)) l).1)) :
    ∃ r1 r2, heard (stamp m.s (root m.cells)) (label m.s (root m.cells) ++ shown m) = some r1 ∧ heard (stamp m.s (root m.cells)) l = some r2 ∧ Clash (believed (label m.s (root m.cells) ++ shown m) r1) (believed l r2) := by
  obtain ⟨T', h1⟩ := heard_own m hok h5
  obtain ⟨r2, h2, h3, h4⟩ := heard_ok h0
  refine ⟨_, r2, h1, h2, ?_⟩
  rcases heard_agree _ _ _ h1 h2 with hc | ⟨e1, e2, e3⟩
  · exact hc
  · refine absurd ⟨?_, ?_⟩ hd
    · have : m.step.2 = r2.2.2 := e3
      rw [this, h3]
    · have e1' : m.step.1.s = r2.1 := e1
      have e2' : root m.step.1.cells = r2.2.1.root := e2
      rw [h4, e1', e2']
end Dp
end Go.Proofs.YtdipojfngdceoabGreatDoor

/- The texts that are believed are short. No program is named here. -/
namespace Go.Proofs.YtdipojfngdceoabGreatDoor
namespace Dp
theorem coreStep_inv {σ : Type} (M : Memo σ) (I : σ → Prop) (hl : ∀ m n r, M.load m n = some r → I m → I r.1) (hs : ∀ m n v r, M.store m n v = some r → I m → I r.1) (hr : ∀ m n r, M.source m n = some r → I m → I r.1) (s : Cs) (m : σ) (r : Cs × σ × Int) (h : coreStep M s m = some r) (hm : I m) : I r.2.1 := by
  unfold coreStep at h
  by_cases ho : s.over = true
  · rw [if_pos ho] at h
    rw [← Option.some.inj h]; exact hm
  · rw [if_neg ho] at h
    cases h1 : M.load m s.pc with
    | none => rw [h1] at h; cases h
    | some a =>
      rw [h1] at h
      have ha := hl _ _ _ h1 hm
      simp only at h
      by_cases he : a.2.2 = 0
      · rw [if_neg (by simp [he])] at h
        have key : ∀ q, perform M s a.1 (decode a.2.1) = some q → I q.2.1 := by
          intro q hq
          unfold perform at hq
          split at hq
          · cases h2 : M.load a.1 (wrap (s.reg (decode a.2.1).b + (decode a.2.1).n)) with
            | none => rw [h2] at hq; cases hq
            | some c =>
              rw [h2] at hq
              have hc := hl _ _ _ h2 ha
              simp only at hq
              split at hq <;> (rw [← Option.some.inj hq]; exact hc)
          · split at hq
            · cases h2 : M.store a.1 (wrap (s.reg (decode a.2.1).b + (decode a.2.1).n)) (s.reg (decode a.2.1).a) with
              | none => rw [h2] at hq; cases hq
              | some c =>
                rw [h2] at hq
                have hc := hs _ _ _ _ h2 ha
                simp only at hq
                split at hq <;> (rw [← Option.some.inj hq]; exact hc)
            · split at hq
              · cases h2 : M.source a.1 (s.reg (decode a.2.1).b) with
                | none => rw [h2] at hq; cases hq
                | some c =>
                  rw [h2] at hq
                  have hc := hr _ _ _ h2 ha
                  simp only at hq
                  split at hq <;> (rw [← Option.some.inj hq]; exact hc)
              · rw [← Option.some.inj hq]; exact ha
        cases h3 : perform M s a.1 (decode a.2.1) with
        | none => rw [h3] at h; cases h
        | some q =>
          rw [h3] at h
          have hq := key q h3
          simp only at h
          split at h <;> (rw [← Option.some.inj h]; exact hq)
      · rw [if_pos he] at h
        rw [← Option.some.inj h]; exact ha
theorem ptext_len (a : Int) (o : List Int) (n d : Nat) : (ptext a o n d).length ≤ 300 := by
  unfold ptext
  split
  · simp [cellText, four_length]
  · split <;> simp [halvesText, two_length]
theorem pfTexts_small (l : List UInt8) (n : Nat) : ∀ t ∈ pfTexts l n, t.length ≤ 300 := by
  intro t ht
  simp only [pfTexts, List.mem_map] at ht
  obtain ⟨j, _, rfl⟩ := ht
  exact ptext_len _ _ _ _
def smallPm (m : Pm) : Prop := ∀ t ∈ m.texts, t.length ≤ 300
theorem heard_small (S : Int) (l : List UInt8) : ∀ t ∈ heardTexts S l, t.length ≤ 300 := by
  unfold heardTexts
  cases hr : heard S l with
  | none => intro t ht; simp at ht
  | some r =>
    unfold heard at hr
    split at hr
    · cases h1 : coreStep proofsMemo (unlab l) ⟨l.drop 47, unroot l, []⟩ with
      | none => rw [h1] at hr; cases hr
      | some q =>
        rw [h1] at hr
        simp only at hr
        have hq : smallPm q.2.1 := by
          refine coreStep_inv proofsMemo smallPm ?_ ?_ ?_ _ _ _ h1 (fun t ht => by simp at ht)
          · intro m n r hr hm
            simp only [proofsMemo] at hr
            split at hr
            · rw [← Option.some.inj hr]; exact hm
            · split at hr
              · rw [← Option.some.inj hr]
                intro t ht
                rcases List.mem_append.1 ht with h | h
                · exact hm t h
                · exact pfTexts_small _ _ t h
              · cases hr
          · intro m n v r hr hm
            simp only [proofsMemo] at hr
            split at hr
            · rw [← Option.some.inj hr]; exact hm
            · split at hr
              · rw [← Option.some.inj hr]
                intro t ht
                rcases List.mem_append.1 ht with h | h
                · exact hm t h
                · exact pfTexts_small _ _ t h
              · cases hr
          · intro m n r hr hm
            simp only [proofsMemo] at hr
            split at hr
            · rw [← Option.some.inj hr]
              intro t ht
              rcases List.mem_append.1 ht with h | h
              · exact hm t h
              · obtain rfl : t = srcNext m.rest := by simpa using h
                have := (m.rest.getD 0 0).toNat_lt
                unfold srcNext srcSize
                rw [List.length_take]; omega
            · cases hr
        split at hr
        · have e := Option.some.inj hr
          subst e
          intro t ht
          unfold believed at ht
          rcases List.mem_cons.1 ht with h | h
          · rw [h, label_length _ _ (unlab_ok l).len]; omega
          · exact hq t h
        · cases hr
    · cases hr
end Dp
end Go.Proofs.YtdipojfngdceoabGreatDoor
