/- For every word and every list of numbers 'Single' answers true, and both read afterwards as they read before. -/
import Derived.Test.YtdipojfngdceoaaGreatDoorPack28
import Derived.Test.YtdipojfngdceoaaGreatDoorCards
import Derived.Test.YtdipojfngdceoaaGreatDoorTie
import Derived.ProofKit
import Derived.OpenShut
import Derived.Deep.DeepHandedRow
namespace Go.Proofs.YtdipojfngdceoaaGreatDoor
open Go.ChangeShapes Go.WideShapes Go.ChangeAt Go.RowKit

theorem own : ownKnob Tryz.prog.godebug = none := by kernel_rfl
theorem laidOut : laidOutB Tryz.prog = true := by kernel_rfl
theorem cellsInt : Tryz.prog.cellsOf 3 = 1 := by kernel_rfl

namespace OfSingle
/-- A world for the witness: the sentinel of the parts as its initialiser lays it. -/
theorem laid_world (os : Os) : ∃ w0 : World, w0.os = os ∧ (w0.forCall (fun _ _ => 0) ⟨#[], #[.int .i64 0, .slice none 0 0], []⟩).variablesB Tryz.prog = true ∧
    ((w0.forCall (fun _ _ => 0) ⟨#[], #[.int .i64 0, .slice none 0 0], []⟩).heap.toList.drop Tryz.prog.globals.size).take ((begin Tryz.prog (fun _ _ => 0) default).world.heap.size - Tryz.prog.globals.size) = (begin Tryz.prog (fun _ _ => 0) default).world.heap.toList.drop Tryz.prog.globals.size ∧
    Input.okWideB Tryz.prog (w0.forCall (fun _ _ => 0) ⟨#[], #[.int .i64 0, .slice none 0 0], []⟩) 3 ⟨#[], #[.int .i64 0, .slice none 0 0], []⟩ = true ∧
    ∀ (H : Type) (enc : TypeId × Value → H), (OpenSpec.ofChange Rows.singleSpec).preRow enc Tryz.prog Tryz.f3 Rows.singleRow.domain false Rows.singleRow.laid (w0.forCall (fun _ _ => 0) ⟨#[], #[.int .i64 0, .slice none 0 0], []⟩).memory #[.int .i64 0, .slice none 0 0] := by
  refine ⟨{ World.holding Tryz.prog os ⟨#[.cells #[.string ⟨#[116, 104, 101, 32, 119, 105, 116, 110, 101, 115, 115, 32, 105, 115, 32, 110, 111, 110, 101]⟩] 226], #[], []⟩ with
      heap := (World.holding Tryz.prog os ⟨#[.cells #[.string ⟨#[116, 104, 101, 32, 119, 105, 116, 110, 101, 115, 115, 32, 105, 115, 32, 110, 111, 110, 101]⟩] 226], #[], []⟩).heap.modify 0 fun
        | .cells _ t frozen => .cells #[.iface 202 (.pointer (some ⟨(World.holding Tryz.prog default ⟨#[], #[], []⟩).heap.size, 0, none⟩))] t frozen
        | o => o }, rfl, by kernel_rfl, by kernel_rfl, by kernel_rfl, fun H enc => ?_⟩
  exact OpenSpec.preRow_of_cond (x := ([.lit (.int .i64 0), .nil], [], [])) 8 (by kernel_rfl) (by kernel_rfl) (fun k hk => by cases hk) (by kernel_rfl) (laidMet_of_run' 8 (by kernel_rfl) (by kernel_rfl))

set_option maxRecDepth 100000 in
theorem contract (H : Type) (enc : TypeId × Value → H) (W : World) (base : Nat) (args : Array Value) (ds gs : List (DataW H)) (before : List MemPlace)
    (hval : ∀ (j : Nat) t v, Tryz.f3.params[j]? = some t → args[j]? = some v → Value.okWide Tryz.prog W .any base t v)
    (hW : DataW.Whole enc Tryz.prog Tryz.f3.params.toList Rows.singleSpec.vars false W args.toList ds gs before) :
    Calls Tryz.prog 3 args W fun e W' => ∃ v, e = .returned v ∧ Rows.singleSpec.post enc Tryz.prog Tryz.f3 false true false false W args v W' := by
  have hW' := hW
  obtain ⟨p, q, hA0, hV, rfl, hfz, hnd⟩ := hW
  have hA : DataW.TrodAll enc Tryz.prog W 0 (fun _ => true) true Tryz.f3.params.toList args.toList ds p := hA0
  rw [Tryz.params3] at hA hval
  obtain ⟨v0, vs0, d0, ds0, p0, q0, hargs, rfl, rfl, h0, r0⟩ := trodAll_cons hA
  obtain ⟨v1, vs1, d1, ds1, p1, q1, hargs1, rfl, rfl, h1, r1⟩ := trodAll_cons r0
  obtain ⟨rfl, rfl, rfl⟩ := trodAll_nil r1
  obtain rfl : args = #[v0, v1] := by cases args; simp_all
  obtain ⟨rfl, rfl⟩ := trodVars_none hV
  obtain ⟨word, rfl, rfl, rfl, hwf⟩ := open_int Tryz.underlying3 (hval 0 3 v0 rfl rfl) h0
  obtain ⟨ad, n, cap, rfl⟩ := okWide_slice Tryz.underlying22 (hval 1 22 v1 rfl rfl)
  have hword : -9223372036854775808 ≤ word ∧ word ≤ 9223372036854775807 := bounds_i64 hwf
  have h1k := h1
  obtain ⟨fuel, hf⟩ := h1
  clear hA0
  simp only [List.append_nil, List.nil_append] at hW'
  have hlt : ∀ x ∈ p1, x.block < W.heap.size := fun x hx => by simpa using hW'.lt x hx
  have fin : ∀ (b0 o0 : Nat) (r : Nat → Int), n ≤ 9223372036854775807 → (0 < n → ad = some ⟨b0, o0, none⟩) → (∀ i, i < n → i < 8 → W.cell? ⟨b0, o0 + i, none⟩ = some (.int .i64 (r i))) → (∀ i, -9223372036854775808 ≤ r i ∧ r i ≤ 9223372036854775807) →
      Calls Tryz.prog 3 #[.int .i64 word, .slice ad n cap] W fun e W' => ∃ v, e = .returned v ∧ Rows.singleSpec.post enc Tryz.prog Tryz.f3 false true false false W #[.int .i64 word, .slice ad n cap] v W' := by
    intro b0 o0 r g1 g2 g3 g4
    refine (lawSingle W word hword ad n cap g1 b0 o0 r g2 g3 g4).mono fun e W' ⟨he, hk⟩ => ?_
    subst he
    have hnx : Below W.heap.size W W' := hk.below (fun _ _ e => e) (Nat.le_refl _)
    refine ⟨_, rfl, _, _, _, [], p1, [], hW', ?_, ?_, rfl, hnx.frame _, fun h => by cases h⟩
    · exact trodAll_mk1 (shut_bool Tryz.underlying4 true)
    · exact trodAll_cons_mk (shut_int Tryz.underlying3 hwf) (trodAll_mk1 (Below.trod laidOut (by kernel_rfl) (of_decide_eq_true (by kernel_rfl)) h1k hnx hlt))
  rcases open_ints Tryz.underlying22 Tryz.underlying3 cellsInt hf with ⟨hcs, hx⟩ | ⟨a, len', cap', zs, hcs, _, hl, hm, hz, hx, hcell, hws⟩
  · simp [Value.cells] at hcs
    obtain ⟨rfl, rfl, rfl⟩ := hcs
    exact fin 0 0 (fun _ => 0) (by decide) (fun h => absurd h (by decide)) (fun i hi => absurd hi (by omega)) (fun i => by decide)
  · simp [Value.cells] at hcs
    obtain ⟨rfl, rfl, rfl⟩ := hcs
    simp only [Prod.mk.injEq] at hx
    obtain ⟨rfl, rfl⟩ := hx
    simp only [if_true] at hz
    have h64 : ∀ i, -9223372036854775808 ≤ zs.getD i 0 ∧ zs.getD i 0 ≤ 9223372036854775807 := fun i => by
      rw [List.getD_eq_getElem?_getD]; exact range_i64 hws i
    have hmx : n ≤ 9223372036854775807 := by unfold maxLen at hm; omega
    by_cases hl0 : n = 0
    · subst hl0
      exact fin 0 0 (fun _ => 0) (by decide) (fun h => absurd h (by decide)) (fun i hi => absurd hi (by omega)) (fun i => by decide)
    · obtain ⟨b, off, spot⟩ := a
      have hspot : spot = none := by simpa [Addr.add] using World.cell?_spot (hcell 0 (by omega))
      subst hspot
      refine fin b off (fun i => zs.getD i 0) hmx (fun _ => rfl) (fun i hi _ => ?_) h64
      have ha : (⟨b, off, none⟩ : Addr).add i = ⟨b, off + i, none⟩ := by unfold Addr.add; split <;> simp_all
      exact ha ▸ hcell i (by omega)

set_option maxRecDepth 100000 in
theorem lifted (os : Os) (started : os.Started) (H : Type) (enc : TypeId × Value → H) (F : Stop.Interp) :
    ReturnsInHanded {} Tryz.checked os 3 .any ((OpenSpec.ofChange Rows.singleSpec).preRow enc Tryz.prog Tryz.f3 Rows.singleRow.domain false Rows.singleRow.laid) (((OpenSpec.ofChange Rows.singleSpec).at F).post enc Tryz.prog Tryz.f3 false true false false) := by
  obtain ⟨w0, h1, h2, h3, h4, h5⟩ := laid_world os
  refine returnsInHanded_of_row (C := Tryz.checked) (s := OpenSpec.ofChange Rows.singleSpec) own started (by kernel_rfl) Tryz.func3
    (witness_row_at (enc := enc) (C := Tryz.checked) false w0 #[.int .i64 0, .slice none 0 0] h1 h2 h3 h4 (h5 H enc)) ?_
  intro W base args ds gs before hval hW _ _ _ _ _ _
  exact contract H enc W base args ds gs before hval hW

theorem said : Rows.SingleSaid :=
  OpenClaim.holds_of_cond 3 Tryz.f3 rfl rfl rfl rfl rfl rfl rfl ⟨rfl, rfl, rfl, rfl, rfl⟩ rfl rfl rfl rfl rfl (by kernel_rfl) Tryz.func3 (by kernel_rfl)
    (of_decide_eq_true (by kernel_rfl)) (by unfold Func.isWrapper; first | (rw [if_pos (by decide +kernel)]; kernel_rfl) | (rw [if_neg (by decide +kernel)]; exact ⟨rfl, rfl⟩))
    (fun os started H enc _ F => by rw [OpenClaim.pre_eq_preRow]; exact lifted os started H enc F)

theorem plain (f : FuncId) (fn : Func) (hf : Tryz.pinned.checked.prog.funcNamed Rows.singleRow.func = some f) (hfn : Tryz.pinned.checked.prog.funcs[f]? = some fn) :
    true = Tryz.pinned.checked.prog.looks [] ∧ ∀ (j : Nat) t, fn.params[j]? = some t → Tryz.pinned.checked.prog.wantsStandIn t = false := by
  obtain rfl : f = 3 := Option.some.inj ((show Tryz.prog.funcNamed Rows.singleRow.func = some 3 by kernel_rfl).symm.trans hf) |>.symm
  obtain rfl : fn = Tryz.f3 := (Option.some.inj (Tryz.func3.symm.trans hfn)).symm
  refine ⟨by kernel_rfl, fun j t ht => ?_⟩
  rw [Tryz.params3] at ht
  have hm : t = 3 ∨ t = 22 := by simpa using Array.mem_of_getElem? ht
  rcases hm with rfl | rfl
  · exact (show Tryz.prog.wantsStandIn 3 = false by kernel_rfl)
  · exact (show Tryz.prog.wantsStandIn 22 = false by kernel_rfl)
end OfSingle

theorem single_holds : Rows.SingleCardSaid :=
  Claim7.holds_tied_plain_at .later [] _ _ _ _ OfSingle.said (fun _ h => by cases h) (by kernel_rfl) (fun _ h => by cases h) single_row_tie rfl ⟨rfl, rfl⟩ (by kernel_rfl) rfl OfSingle.plain (by kernel_rfl)

#print axioms single_holds

end Go.Proofs.YtdipojfngdceoaaGreatDoor
