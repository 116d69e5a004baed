/- For every dispute whose bulk (values and letters together) is at most 1048576 'Settles' answers true, and all that it was given reads afterwards as it read before. -/
import Derived.Test.YtdipojfngdceoaaDoorPack66
import Derived.Test.YtdipojfngdceoaaDoorPack67
import Derived.Test.YtdipojfngdceoaaDoorCards
import Derived.Test.YtdipojfngdceoaaDoorTie
import Derived.ProofKit
import Derived.OpenShut
import Derived.Deep.DeepHandedRow
import Derived.ChangeMaps5
namespace Go.Proofs.YtdipojfngdceoaaDoor
open Go.ChangeShapes Go.WideShapes Go.ChangeAt Go.RowKit Go.ChangeMaps

theorem own : ownKnob Tryd.prog.godebug = none := by kernel_rfl
theorem laidOut : laidOutB Tryd.prog = true := by kernel_rfl

namespace OfSettles
/-- A world for the witness: the sentinel of the parts as its initialiser lays it. -/
theorem laid_world (os : Os) : ∃ w0 : World, w0.os = os ∧ (w0.forCall (fun _ _ => 0) ⟨#[], #[.int .i64 0, .int .i64 0, .int .i64 0, .slice none 0 0, .string ⟨#[]⟩], []⟩).variablesB Tryd.prog = true ∧
    ((w0.forCall (fun _ _ => 0) ⟨#[], #[.int .i64 0, .int .i64 0, .int .i64 0, .slice none 0 0, .string ⟨#[]⟩], []⟩).heap.toList.drop Tryd.prog.globals.size).take ((begin Tryd.prog (fun _ _ => 0) default).world.heap.size - Tryd.prog.globals.size) = (begin Tryd.prog (fun _ _ => 0) default).world.heap.toList.drop Tryd.prog.globals.size ∧
    Input.okWideB Tryd.prog (w0.forCall (fun _ _ => 0) ⟨#[], #[.int .i64 0, .int .i64 0, .int .i64 0, .slice none 0 0, .string ⟨#[]⟩], []⟩) 7 ⟨#[], #[.int .i64 0, .int .i64 0, .int .i64 0, .slice none 0 0, .string ⟨#[]⟩], []⟩ = true ∧
    ∀ (H : Type) (enc : TypeId × Value → H), (Rows.OpenSpec.upto Rows.settlesSpec).preRow enc Tryd.prog Tryd.f7 Rows.settlesUptoRow.domain false Rows.settlesUptoRow.laid (w0.forCall (fun _ _ => 0) ⟨#[], #[.int .i64 0, .int .i64 0, .int .i64 0, .slice none 0 0, .string ⟨#[]⟩], []⟩).memory #[.int .i64 0, .int .i64 0, .int .i64 0, .slice none 0 0, .string ⟨#[]⟩] := by
  refine ⟨{ World.holding Tryd.prog os ⟨#[.cells #[.string ⟨#[116, 104, 101, 32, 119, 105, 116, 110, 101, 115, 115, 32, 105, 115, 32, 110, 111, 110, 101]⟩] 193], #[], []⟩ with
      heap := (World.holding Tryd.prog os ⟨#[.cells #[.string ⟨#[116, 104, 101, 32, 119, 105, 116, 110, 101, 115, 115, 32, 105, 115, 32, 110, 111, 110, 101]⟩] 193], #[], []⟩).heap.modify 0 fun
        | .cells _ t frozen => .cells #[.iface 167 (.pointer (some ⟨(World.holding Tryd.prog default ⟨#[], #[], []⟩).heap.size, 0, none⟩))] t frozen
        | o => o }, rfl, by kernel_rfl, by kernel_rfl, by kernel_rfl, fun H enc => ?_⟩
  exact OpenSpec.preRow_of_cond (x := ([.lit (.int .i64 0), .lit (.int .i64 0), .lit (.int .i64 0), .nil, .lit (.string [])], [], [])) 8 (by kernel_rfl) (by kernel_rfl) (fun k hk => by cases hk; kernel_rfl) (by kernel_rfl) (laidMet_of_run' 8 (by kernel_rfl) (by kernel_rfl))

set_option maxRecDepth 100000 in
theorem contract (H : Type) (enc : TypeId × Value → H) (W : World) (base : Nat) (args : Array Value) (ds gs : List (DataW H)) (before : List MemPlace)
    (hval : ∀ (j : Nat) t v, Tryd.f7.params[j]? = some t → args[j]? = some v → Value.okWide Tryd.prog W .any base t v)
    (hW : DataW.Whole enc Tryd.prog Tryd.f7.params.toList Rows.settlesSpec.vars false W args.toList ds gs before) (hk : Rows.uptoSmall H (ds ++ gs) = true) (hE : ∃ eb, Dp.ErrAt W eb) :
    Calls Tryd.prog 7 args W fun e W' => ∃ v, e = .returned v ∧ Rows.settlesSpec.post enc Tryd.prog Tryd.f7 false true false false W args v W' := by
  have hW' := hW
  obtain ⟨eb, he⟩ := hE
  obtain ⟨p, q, hA0, hV, rfl, hfz, hnd⟩ := hW
  have hA : DataW.TrodAll enc Tryd.prog W 0 (fun _ => true) true Tryd.f7.params.toList args.toList ds p := hA0
  rw [Tryd.params7] at hA hval
  obtain ⟨v0, vs0, d0, ds0, p0, q0, hargs, rfl, rfl, h0, r0⟩ := trodAll_cons hA
  obtain ⟨v1, vs1, d1, ds1, p1, q1, hargs1, rfl, rfl, h1, r1⟩ := trodAll_cons r0
  obtain ⟨v2, vs2, d2, ds2, p2, q2, hargs2, rfl, rfl, h2, r2⟩ := trodAll_cons r1
  obtain ⟨v3, vs3, d3, ds3, p3, q3, hargs3, rfl, rfl, h3, r3⟩ := trodAll_cons r2
  obtain ⟨v4, vs4, d4, ds4, p4, q4, hargs4, rfl, rfl, h4, r4⟩ := trodAll_cons r3
  obtain ⟨rfl, rfl, rfl⟩ := trodAll_nil r4
  obtain rfl : args = #[v0, v1, v2, v3, v4] := by cases args; simp_all
  obtain ⟨rfl, rfl⟩ := trodVars_none hV
  obtain ⟨D, rfl, rfl, rfl, hwf0⟩ := open_int Tryd.underlying3 (hval 0 3 v0 rfl rfl) h0
  obtain ⟨S, rfl, rfl, rfl, hwf1⟩ := open_int Tryd.underlying3 (hval 1 3 v1 rfl rfl) h1
  obtain ⟨T, rfl, rfl, rfl, hwf2⟩ := open_int Tryd.underlying3 (hval 2 3 v2 rfl rfl) h2
  obtain ⟨s, rfl, rfl, rfl, hsm⟩ := open_string Tryd.underlying9 (hval 4 9 v4 rfl rfl) h4
  clear hA0
  simp only [List.append_nil, List.nil_append] at hW' hk
  have hlt : ∀ x ∈ p3, x.block < W.heap.size := fun x hx => by simpa using hW'.lt x hx
  have hk' : Rows.uptoBulkAll [DataW.lit (H := H) (.int .i64 D), .lit (.int .i64 S), .lit (.int .i64 T), d3, .lit (.string s.data.toList)] ≤ 1048576 := of_decide_eq_true hk
  simp only [Rows.uptoBulkAll, Rows.uptoBulk] at hk'
  have h3k := h3
  obtain ⟨a3, len, cap, rfl⟩ := okWide_slice Tryd.underlying61 (hval 3 61 v3 rfl rfl)
  obtain ⟨fuel, hf⟩ := h3
  obtain ⟨ms, hM⟩ := moves_of (y := (d3, p3)) hf (by show Rows.uptoBulk d3 ≤ _; omega)
  have hs := Dp.str_toList s
  have hl := lawSettles W eb D S T _ ms s.data.toList he hM (by omega)
  rw [hs] at hl
  refine hl.mono fun e W' ⟨he, hk⟩ => ?_
  subst he
  have hnx : Below W.heap.size W W' := hk.below (fun _ _ e => e) (Nat.le_refl _)
  refine ⟨_, rfl, _, _, _, [], p3, [], hW', ?_, ?_, rfl, hnx.frame _, fun h => by cases h⟩
  · exact trodAll_mk1 (shut_bool Tryd.underlying4 true)
  · have h5 := trodAll_cons_mk (shut_int Tryd.underlying3 hwf0) (trodAll_cons_mk (shut_int Tryd.underlying3 hwf1) (trodAll_cons_mk (shut_int Tryd.underlying3 hwf2) (trodAll_cons_mk (Below.trod laidOut (by kernel_rfl) (of_decide_eq_true (by kernel_rfl)) h3k hnx hlt) (trodAll_mk1 (shut_string Tryd.underlying9 hsm)))))
    simp only [List.nil_append, List.append_nil] at h5
    exact h5

set_option maxRecDepth 100000 in
theorem lifted (os : Os) (started : os.Started) (H : Type) (enc : TypeId × Value → H) (F : Stop.Interp) :
    ReturnsInHanded {} Tryd.checked os 7 .any ((Rows.OpenSpec.upto Rows.settlesSpec).preRow enc Tryd.prog Tryd.f7 Rows.settlesUptoRow.domain false Rows.settlesUptoRow.laid) (((Rows.OpenSpec.upto Rows.settlesSpec).at F).post enc Tryd.prog Tryd.f7 false true false false) := by
  obtain ⟨w0, h1, h2, h3, h4, h5⟩ := laid_world os
  refine returnsInHanded_of_row (C := Tryd.checked) (s := Rows.OpenSpec.upto Rows.settlesSpec) own started (by kernel_rfl) Tryd.func7
    (witness_row_at (enc := enc) (C := Tryd.checked) false w0 #[.int .i64 0, .int .i64 0, .int .i64 0, .slice none 0 0, .string ⟨#[]⟩] h1 h2 h3 h4 (h5 H enc)) ?_
  intro W base args ds gs before hval hW _ hcond _ hL _ _
  exact contract H enc W base args ds gs before hval hW (hcond _ rfl) (err_of_laid hL)

theorem said : Rows.SettlesUptoSaid :=
  OpenClaim.holds_of_cond 7 Tryd.f7 rfl rfl rfl rfl rfl rfl rfl ⟨rfl, rfl, rfl, rfl, rfl⟩ rfl rfl rfl rfl rfl (by kernel_rfl) Tryd.func7 (by kernel_rfl)
    (of_decide_eq_true (by kernel_rfl)) (by unfold Func.isWrapper; first | (rw [if_pos (by decide +kernel)]; kernel_rfl) | (rw [if_neg (by decide +kernel)]; exact ⟨rfl, rfl⟩))
    (fun os started H enc _ F => by rw [OpenClaim.pre_eq_preRow]; exact lifted os started H enc F)

theorem plain (f : FuncId) (fn : Func) (hf : Tryd.pinned.checked.prog.funcNamed Rows.settlesUptoRow.func = some f) (hfn : Tryd.pinned.checked.prog.funcs[f]? = some fn) :
    true = Tryd.pinned.checked.prog.looks [] ∧ ∀ (j : Nat) t, fn.params[j]? = some t → Tryd.pinned.checked.prog.wantsStandIn t = false := by
  obtain rfl : f = 7 := Option.some.inj ((show Tryd.prog.funcNamed Rows.settlesUptoRow.func = some 7 by kernel_rfl).symm.trans hf) |>.symm
  obtain rfl : fn = Tryd.f7 := (Option.some.inj (Tryd.func7.symm.trans hfn)).symm
  refine ⟨by kernel_rfl, fun j t ht => ?_⟩
  rw [Tryd.params7] at ht
  have hm : t = 3 ∨ t = 61 ∨ t = 9 := by simpa using Array.mem_of_getElem? ht
  rcases hm with rfl | rfl | rfl
  · exact (show Tryd.prog.wantsStandIn 3 = false by kernel_rfl)
  · exact (show Tryd.prog.wantsStandIn 61 = false by kernel_rfl)
  · exact (show Tryd.prog.wantsStandIn 9 = false by kernel_rfl)
end OfSettles

theorem settles_holds : Rows.SettlesUptoCardSaid :=
  Claim7.holds_tied_plain_at .later [] _ _ _ _ OfSettles.said (fun _ h => by cases h) (by kernel_rfl) (fun _ h => by cases h) settlesUpto_row_tie rfl ⟨rfl, rfl⟩ (by kernel_rfl) rfl OfSettles.plain (by kernel_rfl)

#print axioms settles_holds

end Go.Proofs.YtdipojfngdceoaaDoor
