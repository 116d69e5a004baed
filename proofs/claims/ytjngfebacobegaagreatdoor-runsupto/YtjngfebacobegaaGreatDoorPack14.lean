/- Steps on the way: Invoke, MemoStill, MakeCap, Returned. -/
import Derived.Test.YtjngfebacobegaaGreatDoorPack01
import Derived.Test.YtjngfebacobegaaGreatDoorPack03
import Derived.WalkKit
import Derived.Test.YtjngfebacobegaaGreatDoorRows
import Derived.WalkSpells
import Derived.WalkLawsBesides
/- A call by an interface: the method's own function is entered. It holds of every program. -/
namespace Go.Proofs.YtjngfebacobegaaGreatDoor
namespace Dp
open Go

theorem wp_invoke {P : Program} {w : World} {o : Oper} {a : Act} {K : Act → World → Prop} {Q : Exit → Act → World → Prop} (c : Call) (recv : Operand) (name : String) (ho : o.op = .call c) (hc : c.callee = .invoke recv name)
    (T : TypeId) (x : Value) (hr : a.eval recv = .iface T x) (vals : Array Value) (hv : c.args.map a.eval = vals) (f : FuncId) (fargs : Array Value)
    (hm : ∀ wx, (callMethod (.iface T x) name vals).run P wx = .ok (.enter f fargs) wx)
    (h : Calls P f fargs w fun e w'' => match e with
      | .returned v => K (a.put o.dst v) w''
      | .panicked chain => Q (.panic chain) a w''
      | .outgrown => LetsOut Q) : o.wp P a w K Q := by
  have e1 : (execOp a.eval o).run P w = .ok (.enter f fargs) w := by
    unfold execOp
    simp only [ho, resolve, hc, hr, hv, Sem.run_bind, Sem.run_pure, Result.andThen_ok, invoke]
    have e2 : (#[Value.iface T x] ++ vals)[0]? = some (.iface T x) := by rw [Array.getElem?_append_left (show 0 < 1 by omega)]; rfl
    have e3 : (#[Value.iface T x] ++ vals).extract 1 (#[Value.iface T x] ++ vals).size = vals := by
      apply Array.ext'; simp
    rw [e2, e3]
    exact hm w
  unfold Oper.wp
  rw [e1, Oper.upon_enter]
  refine h.mono ?_
  intro e w'' he
  cases e <;> exact he

theorem wpList_invoke {P : Program} {w : World} {ops : Array Oper} {rest : List Oper} {o : Oper} {a : Act} {Q : Exit → Act → World → Prop} (hgd : o.guard = none) (c : Call) (recv : Operand) (name : String) (ho : o.op = .call c) (hc : c.callee = .invoke recv name)
    (T : TypeId) (x : Value) (hr : a.eval recv = .iface T x) (vals : Array Value) (hv : c.args.map a.eval = vals) (f : FuncId) (fargs : Array Value)
    (hm : ∀ wx, (callMethod (.iface T x) name vals).run P wx = .ok (.enter f fargs) wx)
    (h : Calls P f fargs w fun e w'' => match e with
      | .returned v => wpList P ops Q rest (a.put o.dst v) w''
      | .panicked chain => Q (.panic chain) a w''
      | .outgrown => LetsOut Q) : wpList P ops Q (o :: rest) a w := by
  refine wpList_plain hgd fun K hK => ?_
  refine wp_invoke c recv name ho hc T x hr vals hv f fargs hm (h.mono ?_)
  intro e w'' he
  cases e
  · exact hK _ _ he
  · exact he
  · exact he

/-- A call of a function value. -/
theorem wp_callFn {P : Program} {w : World} {o : Oper} {a : Act} {K : Act → World → Prop} {Q : Exit → Act → World → Prop} (c : Call) (fo : Operand) (ho : o.op = .call c) (hc : c.callee = .value fo)
    (f : FuncId) (hf : a.eval fo = .func (.func f) #[] #[]) (vals : Array Value) (hv : c.args.map a.eval = vals)
    (hm : (callFunc f vals).run P w = .ok (.enter f vals) w)
    (h : Calls P f vals w fun e w'' => match e with
      | .returned v => K (a.put o.dst v) w''
      | .panicked chain => Q (.panic chain) a w''
      | .outgrown => LetsOut Q) : o.wp P a w K Q := by
  have e1 : (execOp a.eval o).run P w = .ok (.enter f vals) w := by
    unfold execOp
    simp only [ho, resolve, hc, hf, hv, Deferred.ofValue, Sem.run_bind, Sem.run_pure, Result.andThen_ok, invoke, Array.empty_append, Array.append_empty]
    exact hm
  unfold Oper.wp
  rw [e1, Oper.upon_enter]
  refine h.mono ?_
  intro e w'' he
  cases e <;> exact he

end Dp
end Go.Proofs.YtjngfebacobegaaGreatDoor

/- What each instruction without a cell or a source comes to. No program is named here. -/
namespace Go.Proofs.YtjngfebacobegaaGreatDoor
namespace Dp

theorem perform_still {σ : Type} (M : Memo σ) (s : Cs) (m : σ) (i : Ins) (h13 : i.op ≠ 13) (h14 : i.op ≠ 14) (h19 : i.op ≠ 19) : perform M s m i = some ((still s i).1, m, (still s i).2) := by
  unfold perform; rw [if_neg h13, if_neg h14, if_neg h19]
theorem still_alu (s : Cs) (i : Ins) (v : Int) (h1 : 1 ≤ i.op) (h12 : i.op ≤ 12) (h10 : i.op ≠ 10) (hv : aluOf s i = v) : still s i = (putted s i v, 0) := by
  rw [← hv]
  exact still_put s i (by unfold isPlain; simp; omega) (fun h => h10 h.1) (by omega) (by omega)
theorem still_div (s : Cs) (i : Ins) (h : i.op = 10) (hz : s.reg i.c ≠ 0) : still s i = (putted s i (s.reg i.b / s.reg i.c), 0) := by
  have e : aluOf s i = s.reg i.b / s.reg i.c := by simp [aluOf, h]
  rw [← e]
  exact still_put s i (by rw [h]; rfl) (fun h => hz h.2) (by omega) (by omega)
theorem still_div0 (s : Cs) (i : Ins) (h : i.op = 10) (hz : s.reg i.c = 0) : still s i = (s, 4) := by
  unfold still plain; rw [h, hz]; simp [isPlain]
theorem still_halt (s : Cs) (i : Ins) (hl : s.regs.length = 8) (hi : i.Ok) (h : i.op = 0) : still s i = ({ s with over := true, code := s.reg i.a }, 0) := by
  have e : aluOf s i = s.reg i.a := by simp [aluOf, h]
  rw [still_of s i (by rw [h]; rfl) (fun h' => by omega), e, set_self s hl i.a hi.a]
  simp [nextOf, h]
theorem still_same (s : Cs) (i : Ins) (hl : s.regs.length = 8) (hi : i.Ok) (h : i.op = 15) : still s i = (jumped s i (s.reg i.a == s.reg i.b), 0) := by
  have e : aluOf s i = s.reg i.a := by simp [aluOf, h]
  rw [still_of s i (by rw [h]; rfl) (fun h' => by omega), e, set_self s hl i.a hi.a]
  simp [nextOf, h, jumped]
theorem still_other (s : Cs) (i : Ins) (hl : s.regs.length = 8) (hi : i.Ok) (h : i.op = 16) : still s i = (jumped s i (s.reg i.a != s.reg i.b), 0) := by
  have e : aluOf s i = s.reg i.a := by simp [aluOf, h]
  rw [still_of s i (by rw [h]; rfl) (fun h' => by omega), e, set_self s hl i.a hi.a]
  simp [nextOf, h, jumped]
theorem still_under (s : Cs) (i : Ins) (hl : s.regs.length = 8) (hi : i.Ok) (h : i.op = 17) : still s i = (jumped s i (s.reg i.a < s.reg i.b), 0) := by
  have e : aluOf s i = s.reg i.a := by simp [aluOf, h]
  rw [still_of s i (by rw [h]; rfl) (fun h' => by omega), e, set_self s hl i.a hi.a]
  simp [nextOf, h, jumped]
theorem still_call (s : Cs) (i : Ins) (h : i.op = 18) : still s i = ({ s with pc := wrap (s.reg i.b + i.n), regs := s.regs.set i.a.toNat (wrap (s.pc + 1)) }, 0) := by
  have e : aluOf s i = wrap (s.pc + 1) := by simp [aluOf, h]
  rw [still_of s i (by rw [h]; rfl) (fun h' => by omega), e]
  simp [nextOf, h]
theorem still_none (s : Cs) (i : Ins) (h : 20 ≤ i.op) : still s i = (s, 2) := by
  have e : isPlain i.op = false := by unfold isPlain; simp; omega
  unfold still plain; rw [e]; simp

end Dp
end Go.Proofs.YtjngfebacobegaaGreatDoor

/- A new slice with room behind it. It holds of every program. -/
namespace Go.Proofs.YtjngfebacobegaaGreatDoor
namespace Dp
open Go.RowKit

theorem wpList_make_cap {P : Program} (w : World) {ops : Array Oper} {rest : List Oper} {o : Oper} {a : Act} {Q : Exit → Act → World → Prop}
    (hg : o.guard = none) (l c : Operand) (t : TypeId) (hop : o.op = Op.makeSlice t l c)
    (e : TypeId) (z : Value) (bytes : Nat) (h1 : P.underlying t = some (.slice e)) (h2 : (P.info? e).map (fun i => (i.zero, i.size, i.bytes)) = some (some z, 1, bytes)) (hz : z.cells = #[z])
    (kl kc : IntKind) (C : Int) (n : Nat) (hl : a.eval l = .int kl 0) (hc : a.eval c = .int kc C) (hC : C = (n : Int)) (b2 : bytes * n ≤ 281474976710656) (b3 : n ≤ maxLen)
    (hK : ∀ v w', Own w' e v [] → v.ownBlock = some w.heap.size → w'.heap.size = w.heap.size + 1 → Keeps (fun _ => False) w w' → wpList P ops Q rest (a.put o.dst v) w') :
    wpList P ops Q (o :: rest) a w := by
  refine wpList_plain hg fun K hK' => ?_
  obtain ⟨i, hi, hz0, hz1, hz2⟩ := info_parts h2
  subst hC
  unfold maxLen at b3
  have hrun := run_make (P := P) w t e i z h1 hi hz0 kl kc 0 (n : Int) (by omega) (by omega) (by rw [hz2, ← Int.natCast_mul]; omega) (by omega)
  rw [hz1, hz, Int.toNat_natCast, Nat.mul_one, madeCells_one] at hrun
  unfold Oper.wp
  simp only [execOp, hop, hl, hc, hrun, Result.andThen, Sem.run_bind]
  refine hK' _ _ (hK _ _ (.inr ⟨w.heap.size, List.replicate n z, ?_, ?_, ?_⟩) rfl (by simp) ((Keeps.refl _ _).alloc _))
  · simp
  · exact Row.allocNew w e (List.replicate n z)
  · simp [maxLen]; omega
end Dp
end Go.Proofs.YtjngfebacobegaaGreatDoor

/- What 'returned' does with a row that is as 'lent' made it: it answers true, turns the row over, and books it. -/
namespace Go.Proofs.YtjngfebacobegaaGreatDoor
open Go.RowKit Dp

theorem infoBytes : (Tryz.prog.info? 56).map (fun i => (i.zero, i.size, i.bytes)) = some (some (.slice none 0 0), 1, 24) := by kernel_rfl

namespace Dp
/-- 'string(row[:n])' gives the text back. -/
theorem vals_cell {w : World} {b : Nat} {e : TypeId} {l r : List UInt8} (hb : Row w b e (vals (l ++ r))) (j : Nat) (hj : j < l.length) : w.cell? ((⟨b, 0, none⟩ : Addr).add j) = some (.int .u8 (l[j].toNat : Int)) := by
  have h := hb.cell j
  simp only [vals, List.map_append] at h
  rw [List.getElem?_append_left (by simpa using hj)] at h
  rw [add_zero_off, h]; simp [hj]
end Dp

set_option maxHeartbeats 800000 in
theorem returned_any (s : ByteArray) (w : World) (N b : Nat) (v0 v1 v2 v3 v4 v5 : Value) (xs : List Value) (hs : s.size ≤ 16777216) (hk : xs.length ≤ 16777216)
    (hb : Row w b 5 (vals (s.data.toList ++ [252, 253]))) (hN : Row w N 32 [v0, v1, v2, v3, v4, v5]) (hown : Own w 56 v2 xs) :
    Calls Tryz.prog 17 #[.pointer (some ⟨N, 0, none⟩), .slice (some ⟨b, 0, none⟩) (s.size + 2) (s.size + 2), .string s] w fun e w' => e = .returned (.bool true) ∧
      Row w' b 5 (List.replicate (s.size + 2) (.int .u8 251)) ∧ Keeps (fun j => j = b ∨ j = N ∨ v2.ownBlock = some j) w w' ∧
      ∃ v2', Row w' N 32 [v0, v1, v2', v3, v4, v5] ∧ Own w' 56 v2' (xs ++ [.slice (some ⟨b, 0, none⟩) (s.size + 2) (s.size + 2)]) ∧ (v2'.ownBlock = v2.ownBlock ∨ ∀ g, v2'.ownBlock = some g → w.heap.size ≤ g) := by
  have hconv := run_convert_bytes_back (P := Tryz.prog) w 56 9 5 ⟨b, 0, none⟩ (s.size + 2) s.data.toList Tryz.underlying56 Tryz.underlying5 Tryz.underlying9 (vals_cell hb)
  have el : s.data.toList.length = s.size := by simp
  rw [el] at hconv
  have c0 : w.cell? ⟨b, s.size, none⟩ = some (.int .u8 252) := by rw [hb.cell]; simp [vals]
  have c1 : w.cell? ⟨b, s.size + 1, none⟩ = some (.int .u8 253) := by rw [hb.cell]; simp [vals]
  clear el
  go_enter Tryz.func17, Tryz.ntmps17
  go_wp2
  clear hconv c0 c1
  go_loopw [9] (fun i wr => ∃ j : Nat, j ≤ s.size + 2 ∧ i = .int .i64 j ∧ Row wr b 5 (List.replicate j (.int .u8 251) ++ (vals (s.data.toList ++ [252, 253])).drop j) ∧ Keeps (fun q => q = b) w wr) (fun i _ => s.size + 2 - (intOf i).toNat)
  case atStart => exact ⟨0, Nat.zero_le _, rfl, by simpa using hb, Keeps.refl _ _⟩
  case round =>
    obtain ⟨j, hj, rfl, rb, kb⟩ := hrel
    by_cases hlt : j < s.size + 2
    · have hlen : (vals (s.data.toList ++ [252, 253])).length = s.size + 2 := by simp [vals]
      obtain ⟨u, cj⟩ : ∃ u, wr.cell? ⟨b, j, none⟩ = some u := ⟨_, fill_cell rb (by omega)⟩
      have fj := rb.frozen j
      have RB : Hid (Row (wr.setCell ⟨b, j, none⟩ (.int .u8 251)) b 5 (List.replicate (j + 1) (.int .u8 251) ++ (vals (s.data.toList ++ [252, 253])).drop (j + 1))) := by
        have h := rb.set j (.int .u8 251)
        rw [fill_step _ _ _ (by omega)] at h
        exact h
      clear hlen
      go_wp2
      go_roundw
      case rel => exact ⟨j + 1, by omega, by go_num, RB.out, kb.setCell (.inr rfl) _⟩
      case measure => simp [intOf]; omega
    · obtain rfl : j = s.size + 2 := by omega
      rw [List.drop_eq_nil_of_le (by simp [vals]), List.append_nil] at rb
      have hNb : N ≠ b := hN.ne hb (by decide)
      have hob := hown.ne hb (by decide)
      have hoN := hown.ne hN (by decide)
      have hN1 := hN.keep kb hNb
      have hown1 := hown.keep kb hob
      have cN : wr.cell? ⟨N, 2, none⟩ = some v2 := hN1.cellAt 2 (by simp)
      have zw := hN1.lt
      clear hN hown hb hlt
      go_wp2_with (at_builtin; refine wpList_append_Own rfl _ _ 27 rfl 56 (.slice none 0 0) 24 Tryz.underlying27 infoBytes rfl v2 xs rfl (hown1.alloc _) _ 1 1 [.slice (some ⟨b, 0, none⟩) (s.size + 2) (s.size + 2)] rfl rfl (cell_one_new _ _ _) (fun x hx => by simp at hx; subst hx; rfl) (by omega) (by unfold maxLen; omega) (by omega) ?_)
      intro v2' w2 own2 k2 sz2
      have k3 : Keeps (fun k => v2.ownBlock = some k) wr w2 := ((Keeps.refl _ _).alloc _).next k2 (fun _ _ h => h)
      have hN2 := hN1.keep k3 (fun e => hoN N e rfl)
      have cN2 : w2.cell? ⟨N, 2, none⟩ = some v2 := hN2.cellAt 2 (by simp)
      have fN2 := hN2.frozen 2
      have own3 : ∃ ad cap, v2' = .slice ad (xs.length + 1) cap := by simpa using own2.isSlice
      obtain ⟨ad3, cap3, e3⟩ := own3
      have E3 : Hid (v2' = .slice ad3 (xs.length + 1) cap3) := e3
      rw [e3]
      clear e3
      go_wp2
      go_ret
      rw [← E3.out]
      have hb2 := rb.keep k3 (fun e => hob b e rfl)
      refine ⟨rfl, hb2.setOther _ _ (Ne.symm hNb), ?_, v2', hN2.set 2 v2', ?_, ?_⟩
      · refine Keeps.setCell ?_ (.inr (.inr (.inl rfl))) _
        exact (kb.mono (fun k _ e => .inl e)).next k3 (fun k _ e => .inr (.inr e))
      · refine own2.keep ((Keeps.refl (fun k => k = N) w2).setCell (.inr rfl) _) ?_
        intro g hg e
        subst e
        exact own2.ne hN2 (by decide) g hg rfl
      · rcases sz2.out with h | h
        · exact .inl h.1
        · refine .inr fun g hg => ?_
          rw [h.1] at hg
          have := kb.size
          simp at hg
          omega

end Go.Proofs.YtjngfebacobegaaGreatDoor
