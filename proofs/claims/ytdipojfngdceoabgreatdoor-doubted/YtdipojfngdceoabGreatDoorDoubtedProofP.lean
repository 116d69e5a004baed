/- For every list of numbers, list of texts, numbers (the steps ahead, the depth, the last stamp), list of stamps, witness and number 'Doubted' answers true (one whose last stamp is wrong is not upheld, or two texts with one digest are shown), and all that it was given reads afterwards as it read before. -/
import Derived.Test.YtdipojfngdceoabGreatDoorPack104
import Derived.Test.YtdipojfngdceoabGreatDoorPack107
import Derived.Test.YtdipojfngdceoabGreatDoorCards
import Derived.Test.YtdipojfngdceoabGreatDoorTie
import Derived.ProofKit
import Derived.OpenShut
import Derived.Deep.DeepHandedRow
import Derived.ChangeMaps5
namespace Go.Proofs.YtdipojfngdceoabGreatDoor
open Go.ChangeShapes Go.WideShapes Go.ChangeAt Go.RowKit Go.ChangeMaps

theorem own : ownKnob Tryz.prog.godebug = none := by kernel_rfl
theorem laidOut : laidOutB Tryz.prog = true := by kernel_rfl

namespace OfDoubted
/-- A world for the witness: the sentinel of the parts as its initialiser lays it. -/
theorem laid_world (os : Os) : ∃ w0 : World, w0.os = os ∧ (w0.forCall (fun _ _ => 0) ⟨#[], #[.slice none 0 0, .slice none 0 0, .int .i64 0, .int .i64 0, .int .i64 0, .slice none 0 0, .string ⟨#[]⟩, .int .i64 0], []⟩).variablesB Tryz.prog = true ∧
    ((w0.forCall (fun _ _ => 0) ⟨#[], #[.slice none 0 0, .slice none 0 0, .int .i64 0, .int .i64 0, .int .i64 0, .slice none 0 0, .string ⟨#[]⟩, .int .i64 0], []⟩).heap.toList.drop Tryz.prog.globals.size).take ((begin Tryz.prog (fun _ _ => 0) default).world.heap.size - Tryz.prog.globals.size) = (begin Tryz.prog (fun _ _ => 0) default).world.heap.toList.drop Tryz.prog.globals.size ∧
    Input.okWideB Tryz.prog (w0.forCall (fun _ _ => 0) ⟨#[], #[.slice none 0 0, .slice none 0 0, .int .i64 0, .int .i64 0, .int .i64 0, .slice none 0 0, .string ⟨#[]⟩, .int .i64 0], []⟩) 3 ⟨#[], #[.slice none 0 0, .slice none 0 0, .int .i64 0, .int .i64 0, .int .i64 0, .slice none 0 0, .string ⟨#[]⟩, .int .i64 0], []⟩ = true ∧
    ∀ (H : Type) (enc : TypeId × Value → H), (OpenSpec.ofChange Rows.doubtedSpec).preRow enc Tryz.prog Tryz.f3 Rows.doubtedRow.domain false Rows.doubtedRow.laid (w0.forCall (fun _ _ => 0) ⟨#[], #[.slice none 0 0, .slice none 0 0, .int .i64 0, .int .i64 0, .int .i64 0, .slice none 0 0, .string ⟨#[]⟩, .int .i64 0], []⟩).memory #[.slice none 0 0, .slice none 0 0, .int .i64 0, .int .i64 0, .int .i64 0, .slice none 0 0, .string ⟨#[]⟩, .int .i64 0] := by
  refine ⟨{ World.holding Tryz.prog os ⟨#[.cells #[.string ⟨#[116, 104, 101, 32, 119, 105, 116, 110, 101, 115, 115, 32, 105, 115, 32, 110, 111, 110, 101]⟩] 220], #[], []⟩ with
      heap := (World.holding Tryz.prog os ⟨#[.cells #[.string ⟨#[116, 104, 101, 32, 119, 105, 116, 110, 101, 115, 115, 32, 105, 115, 32, 110, 111, 110, 101]⟩] 220], #[], []⟩).heap.modify 0 fun
        | .cells _ t frozen => .cells #[.iface 196 (.pointer (some ⟨(World.holding Tryz.prog default ⟨#[], #[], []⟩).heap.size, 0, none⟩))] t frozen
        | o => o }, rfl, by kernel_rfl, by kernel_rfl, by kernel_rfl, fun H enc => ?_⟩
  exact OpenSpec.preRow_of_cond (x := ([.nil, .nil, .lit (.int .i64 0), .lit (.int .i64 0), .lit (.int .i64 0), .nil, .lit (.string []), .lit (.int .i64 0)], [], [])) 8 (by kernel_rfl) (by kernel_rfl) (fun k hk => by cases hk) (by kernel_rfl) (laidMet_of_run' 8 (by kernel_rfl) (by kernel_rfl))

set_option maxRecDepth 100000 in
theorem contract (H : Type) (enc : TypeId × Value → H) (W : World) (base : Nat) (args : Array Value) (ds gs : List (DataW H)) (before : List MemPlace)
    (hval : ∀ (j : Nat) t v, Tryz.f3.params[j]? = some t → args[j]? = some v → Value.okWide Tryz.prog W .any base t v)
    (hW : DataW.Whole enc Tryz.prog Tryz.f3.params.toList Rows.doubtedSpec.vars false W args.toList ds gs before) (hE : ∃ eb, Dp.ErrAt W eb) :
    Calls Tryz.prog 3 args W fun e W' => ∃ v, e = .returned v ∧ Rows.doubtedSpec.post enc Tryz.prog Tryz.f3 false true false false W args v W' := by
  have hW' := hW
  obtain ⟨eb, he⟩ := hE
  obtain ⟨p, q, hA0, hV, rfl, hfz, hnd⟩ := hW
  have hA : DataW.TrodAll enc Tryz.prog W 0 (fun _ => true) true Tryz.f3.params.toList args.toList ds p := hA0
  rw [Tryz.params3] at hA hval
  obtain ⟨v0, vs0, d0, ds0, p0, q0, hargs, rfl, rfl, h0, r0⟩ := trodAll_cons hA
  obtain ⟨v1, vs1, d1, ds1, p1, q1, hargs1, rfl, rfl, h1, r1⟩ := trodAll_cons r0
  obtain ⟨v2, vs2, d2, ds2, p2, q2, hargs2, rfl, rfl, h2, r2⟩ := trodAll_cons r1
  obtain ⟨v3, vs3, d3, ds3, p3, q3, hargs3, rfl, rfl, h3, r3⟩ := trodAll_cons r2
  obtain ⟨v4, vs4, d4, ds4, p4, q4, hargs4, rfl, rfl, h4, r4⟩ := trodAll_cons r3
  obtain ⟨v5, vs5, d5, ds5, p5, q5, hargs5, rfl, rfl, h5, r5⟩ := trodAll_cons r4
  obtain ⟨v6, vs6, d6, ds6, p6, q6, hargs6, rfl, rfl, h6, r6⟩ := trodAll_cons r5
  obtain ⟨v7, vs7, d7, ds7, p7, q7, hargs7, rfl, rfl, h7, r7⟩ := trodAll_cons r6
  obtain ⟨rfl, rfl, rfl⟩ := trodAll_nil r7
  obtain rfl : args = #[v0, v1, v2, v3, v4, v5, v6, v7] := by cases args; simp_all
  obtain ⟨rfl, rfl⟩ := trodVars_none hV
  obtain ⟨D, rfl, rfl, rfl, hwf2⟩ := open_int Tryz.underlying3 (hval 2 3 v2 rfl rfl) h2
  obtain ⟨E, rfl, rfl, rfl, hwf3⟩ := open_int Tryz.underlying3 (hval 3 3 v3 rfl rfl) h3
  obtain ⟨T, rfl, rfl, rfl, hwf4⟩ := open_int Tryz.underlying3 (hval 4 3 v4 rfl rfl) h4
  obtain ⟨s, rfl, rfl, rfl, hsm⟩ := open_string Tryz.underlying9 (hval 6 9 v6 rfl rfl) h6
  obtain ⟨F, rfl, rfl, rfl, hwf7⟩ := open_int Tryz.underlying3 (hval 7 3 v7 rfl rfl) h7
  obtain ⟨a0, n0, c0, rfl⟩ := okWide_slice Tryz.underlying22 (hval 0 22 v0 rfl rfl)
  obtain ⟨a1, n1, c1, rfl⟩ := okWide_slice Tryz.underlying23 (hval 1 23 v1 rfl rfl)
  obtain ⟨a5, n5, c5, rfl⟩ := okWide_slice Tryz.underlying22 (hval 5 22 v5 rfl rfl)
  clear hA0
  simp only [List.append_nil, List.nil_append] at hW'
  have hlt0 : ∀ x ∈ p0, x.block < W.heap.size := fun x hx => hW'.lt x (List.mem_append_left _ hx)
  have hlt1 : ∀ x ∈ p1, x.block < W.heap.size := fun x hx => hW'.lt x (List.mem_append_right _ (List.mem_append_left _ hx))
  have hlt5 : ∀ x ∈ p5, x.block < W.heap.size := fun x hx => hW'.lt x (List.mem_append_right _ (List.mem_append_right _ hx))
  have h0k := h0
  have h1k := h1
  have h5k := h5
  obtain ⟨fuel0, hf0⟩ := h0
  obtain ⟨fuel1, hf1⟩ := h1
  obtain ⟨fuel5, hf5⟩ := h5
  obtain ⟨raw, hI, h64⟩ := ints_wide (y := (d0, p0)) hf0 hlt0
  obtain ⟨texts, hT⟩ := texts_wide (y := (d1, p1)) hf1 hlt1
  obtain ⟨stamps, hS, _⟩ := ints_wide (y := (d5, p5)) hf5 hlt5
  have hs := Dp.str_toList s
  have hl := keepDoubted W eb _ _ _ raw texts D E T stamps s.data.toList F he hI h64 hT (bounds_i64 hwf2) (bounds_i64 hwf3) hS (by simpa [maxLen] using hsm) (bounds_i64 hwf7)
  rw [hs] at hl
  refine hl.mono fun e W' ⟨he, hk⟩ => ?_
  subst he
  have hnx : Below W.heap.size W W' := hk.below (fun _ _ e => e) (Nat.le_refl _)
  refine ⟨_, rfl, _, _, _, [], p0 ++ (p1 ++ p5), [], hW', ?_, ?_, rfl, hnx.frame _, fun h => by cases h⟩
  · exact trodAll_mk1 (shut_bool Tryz.underlying4 true)
  · have h5 := trodAll_cons_mk (Below.trod laidOut (by kernel_rfl) (of_decide_eq_true (by kernel_rfl)) h0k hnx hlt0) (trodAll_cons_mk (Below.trod laidOut (by kernel_rfl) (of_decide_eq_true (by kernel_rfl)) h1k hnx hlt1) (trodAll_cons_mk (shut_int Tryz.underlying3 hwf2) (trodAll_cons_mk (shut_int Tryz.underlying3 hwf3) (trodAll_cons_mk (shut_int Tryz.underlying3 hwf4) (trodAll_cons_mk (Below.trod laidOut (by kernel_rfl) (of_decide_eq_true (by kernel_rfl)) h5k hnx hlt5) (trodAll_cons_mk (shut_string Tryz.underlying9 hsm) (trodAll_mk1 (shut_int Tryz.underlying3 hwf7))))))))
    simp only [List.nil_append, List.append_nil] at h5
    exact h5

set_option maxRecDepth 100000 in
theorem lifted (os : Os) (started : os.Started) (H : Type) (enc : TypeId × Value → H) (F : Stop.Interp) :
    ReturnsInHanded {} Tryz.checked os 3 .any ((OpenSpec.ofChange Rows.doubtedSpec).preRow enc Tryz.prog Tryz.f3 Rows.doubtedRow.domain false Rows.doubtedRow.laid) (((OpenSpec.ofChange Rows.doubtedSpec).at F).post enc Tryz.prog Tryz.f3 false true false false) := by
  obtain ⟨w0, h1, h2, h3, h4, h5⟩ := laid_world os
  refine returnsInHanded_of_row (C := Tryz.checked) (s := OpenSpec.ofChange Rows.doubtedSpec) own started (by kernel_rfl) Tryz.func3
    (witness_row_at (enc := enc) (C := Tryz.checked) false w0 #[.slice none 0 0, .slice none 0 0, .int .i64 0, .int .i64 0, .int .i64 0, .slice none 0 0, .string ⟨#[]⟩, .int .i64 0] h1 h2 h3 h4 (h5 H enc)) ?_
  intro W base args ds gs before hval hW _ _ _ hL _ _
  exact contract H enc W base args ds gs before hval hW (err_of_laid hL)

theorem said : Rows.DoubtedSaid :=
  OpenClaim.holds_of_cond 3 Tryz.f3 rfl rfl rfl rfl rfl rfl rfl ⟨rfl, rfl, rfl, rfl, rfl⟩ rfl rfl rfl rfl rfl (by kernel_rfl) Tryz.func3 (by kernel_rfl)
    (of_decide_eq_true (by kernel_rfl)) (by unfold Func.isWrapper; first | (rw [if_pos (by decide +kernel)]; kernel_rfl) | (rw [if_neg (by decide +kernel)]; exact ⟨rfl, rfl⟩))
    (fun os started H enc _ F => by rw [OpenClaim.pre_eq_preRow]; exact lifted os started H enc F)

theorem plain (f : FuncId) (fn : Func) (hf : Tryz.pinned.checked.prog.funcNamed Rows.doubtedRow.func = some f) (hfn : Tryz.pinned.checked.prog.funcs[f]? = some fn) :
    true = Tryz.pinned.checked.prog.looks [] ∧ ∀ (j : Nat) t, fn.params[j]? = some t → Tryz.pinned.checked.prog.wantsStandIn t = false := by
  obtain rfl : f = 3 := Option.some.inj ((show Tryz.prog.funcNamed Rows.doubtedRow.func = some 3 by kernel_rfl).symm.trans hf) |>.symm
  obtain rfl : fn = Tryz.f3 := (Option.some.inj (Tryz.func3.symm.trans hfn)).symm
  refine ⟨by kernel_rfl, fun j t ht => ?_⟩
  rw [Tryz.params3] at ht
  have hm : t = 22 ∨ t = 23 ∨ t = 3 ∨ t = 9 := by
    have h := Array.mem_of_getElem? ht
    have h2 : t ∈ [22, 23, 3, 3, 3, 22, 9, 3] := by simpa using h
    simp only [List.mem_cons, List.not_mem_nil, or_false] at h2
    rcases h2 with h | h | h | h | h | h | h | h <;> subst h <;> decide
  rcases hm with rfl | rfl | rfl | rfl
  · exact (show Tryz.prog.wantsStandIn 22 = false by kernel_rfl)
  · exact (show Tryz.prog.wantsStandIn 23 = false by kernel_rfl)
  · exact (show Tryz.prog.wantsStandIn 3 = false by kernel_rfl)
  · exact (show Tryz.prog.wantsStandIn 9 = false by kernel_rfl)
end OfDoubted

theorem doubted_holds : Rows.DoubtedCardSaid :=
  Claim7.holds_tied_plain_at .later [] _ _ _ _ OfDoubted.said (fun _ h => by cases h) (by kernel_rfl) (fun _ h => by cases h) doubted_row_tie rfl ⟨rfl, rfl⟩ (by kernel_rfl) rfl OfDoubted.plain (by kernel_rfl)

#print axioms doubted_holds

end Go.Proofs.YtdipojfngdceoabGreatDoor
