/- For every making of a machine and every list of calls whose bulk (values and letters together) is at most 1048576 'Shows' answers true, and both read afterwards as they read before. -/
import Derived.Test.YtdipojfngdceoaaGreatDoorShQ44
import Derived.Test.YtdipojfngdceoaaGreatDoorShQ45
import Derived.Test.YtdipojfngdceoaaGreatDoorCards
import Derived.Test.YtdipojfngdceoaaGreatDoorTie
import Derived.ProofKit
import Derived.OpenShut
import Derived.Deep.DeepHandedRow
import Derived.ChangeMaps5
namespace Go.Proofs.YtdipojfngdceoaaGreatDoor
open Go.ChangeShapes Go.WideShapes Go.ChangeAt Go.RowKit Go.ChangeMaps
theorem own : ownKnob Tryz.prog.godebug = none := by kernel_rfl
theorem laidOut : laidOutB Tryz.prog = true := by kernel_rfl
namespace OfShows
/-- A world for the witness: the sentinel of the parts as its initialiser lays it. -/
theorem laid_world (os : Os) : ∃ w0 : World, w0.os = os ∧ (w0.forCall (fun _ _ => 0) ⟨#[], #[.agg #[.slice none 0 0, .slice none 0 0], .slice none 0 0], []⟩).variablesB Tryz.prog = true ∧
  ((w0.forCall (fun _ _ => 0) ⟨#[], #[.agg #[.slice none 0 0, .slice none 0 0], .slice none 0 0], []⟩).heap.toList.drop Tryz.prog.globals.size).take ((begin Tryz.prog (fun _ _ => 0) default).world.heap.size - Tryz.prog.globals.size) = (begin Tryz.prog (fun _ _ => 0) default).world.heap.toList.drop Tryz.prog.globals.size ∧
  Input.okWideB Tryz.prog (w0.forCall (fun _ _ => 0) ⟨#[], #[.agg #[.slice none 0 0, .slice none 0 0], .slice none 0 0], []⟩) 5 ⟨#[], #[.agg #[.slice none 0 0, .slice none 0 0], .slice none 0 0], []⟩ = true ∧
  ∀ (H : Type) (enc : TypeId × Value → H), (Rows.OpenSpec.upto Rows.showsSpec).preRow enc Tryz.prog Tryz.f5 Rows.showsUptoRow.domain false Rows.showsUptoRow.laid (w0.forCall (fun _ _ => 0) ⟨#[], #[.agg #[.slice none 0 0, .slice none 0 0], .slice none 0 0], []⟩).memory #[.agg #[.slice none 0 0, .slice none 0 0], .slice none 0 0] := by
 refine ⟨{ World.holding Tryz.prog os ⟨#[.cells #[.string ⟨#[116, 104, 101, 32, 119, 105, 116, 110, 101, 115, 115, 32, 105, 115, 32, 110, 111, 110, 101]⟩] 226], #[], []⟩ with
   heap := (World.holding Tryz.prog os ⟨#[.cells #[.string ⟨#[116, 104, 101, 32, 119, 105, 116, 110, 101, 115, 115, 32, 105, 115, 32, 110, 111, 110, 101]⟩] 226], #[], []⟩).heap.modify 0 fun
    | .cells _ t frozen => .cells #[.iface 202 (.pointer (some ⟨(World.holding Tryz.prog default ⟨#[], #[], []⟩).heap.size, 0, none⟩))] t frozen
    | o => o }, rfl, by kernel_rfl, by kernel_rfl, by kernel_rfl, fun H enc => ?_⟩
 exact OpenSpec.preRow_of_cond (x := ([.agg [.nil, .nil], .nil], [], [])) 8 (by kernel_rfl) (by kernel_rfl) (fun k hk => by cases hk; kernel_rfl) (by kernel_rfl) (laidMet_of_run' 8 (by kernel_rfl) (by kernel_rfl))
set_option maxRecDepth 100000 in
theorem contract (H : Type) (enc : TypeId × Value → H) (W : World) (base : Nat) (args : Array Value) (ds gs : List (DataW H)) (before : List MemPlace)
  (hval : ∀ (j : Nat) t v, Tryz.f5.params[j]? = some t → args[j]? = some v → Value.okWide Tryz.prog W .any base t v)
  (hW : DataW.Whole enc Tryz.prog Tryz.f5.params.toList Rows.showsSpec.vars false W args.toList ds gs before) (hk : Rows.uptoSmall H (ds ++ gs) = true) (hE : ∃ eb, Dp.ErrAt W eb) :
  Calls Tryz.prog 5 args W fun e W' => ∃ v, e = .returned v ∧ Rows.showsSpec.post enc Tryz.prog Tryz.f5 false true false false W args v W' := by
 have hW' := hW
 obtain ⟨eb, he⟩ := hE
 obtain ⟨p, q, hA0, hV, rfl, hfz, hnd⟩ := hW
 have hA : DataW.TrodAll enc Tryz.prog W 0 (fun _ => true) true Tryz.f5.params.toList args.toList ds p := hA0
 rw [Tryz.params5] at hA hval
 obtain ⟨v0, vs0, d0, ds0, p0, q0, hargs, rfl, rfl, h0, r0⟩ := trodAll_cons hA
 obtain ⟨v1, vs1, d1, ds1, p1, q1, hargs1, rfl, rfl, h1, r1⟩ := trodAll_cons r0
 obtain ⟨rfl, rfl, rfl⟩ := trodAll_nil r1
 obtain rfl : args = #[v0, v1] := by cases args; simp_all
 obtain ⟨rfl, rfl⟩ := trodVars_none hV
 clear hA0
 simp only [List.append_nil] at hW' hk
 have hlt : ∀ x ∈ p0 ++ p1, x.block < W.heap.size := fun x hx => by simpa using hW'.lt x hx
 have hk' : Rows.uptoBulkAll [d0, d1] ≤ 1048576 := of_decide_eq_true hk
 simp only [Rows.uptoBulkAll] at hk'
 have h0k := h0
 have h1k := h1
 obtain ⟨c0, c1, y0, y1, n, rfl, rfl, rfl, t0, t1⟩ := Joins.open_agg2 Tryz.underlying36 (by kernel_rfl) cellsMade (hval 0 36 v0 rfl rfl) h0
 simp only [Rows.uptoBulk, Rows.uptoBulkAll] at hk'
 obtain ⟨words, hI, h64⟩ := ints_of t0 (fun x hx => hlt x (by simp [hx])) (by omega)
 obtain ⟨srcs, hT⟩ := texts_of t1 (fun x hx => hlt x (by simp [hx])) (by omega)
 obtain ⟨a0, len, cap, rfl⟩ := okWide_slice Tryz.underlying41 (hval 1 41 v1 rfl rfl)
 obtain ⟨fuel, hf⟩ := h1
 obtain ⟨ops, ob, oo, ocap, oad, hv1, g1, g2, g3, g4, g6, g7, g5⟩ := ops_ofA (y := (d1, p1)) hf (fun x hx => hlt x (List.mem_append_right _ hx)) (by show Rows.uptoBulk d1 ≤ _; omega)
 rw [hv1] at h1k hW' ⊢
 refine (lawShows W c0 c1 words srcs hI hT h64 eb he ops ob oo ocap oad g1 (by omega) g3 g4 g6 g5).mono fun e W' ⟨he, hk⟩ => ?_
 subst he
 have hnx : Below W.heap.size W W' := hk.below (fun _ _ e => e) (Nat.le_refl _)
 refine ⟨_, rfl, _, _, _, [], (y0.2 ++ y1.2) ++ p1, [], hW', ?_, ?_, rfl, hnx.frame _, fun h => by cases h⟩
 ·exact trodAll_mk1 (shut_bool Tryz.underlying4 true)
 ·exact trodAll_cons_mk (Below.trod laidOut (by kernel_rfl) (of_decide_eq_true (by kernel_rfl)) h0k hnx (fun x hx => hlt x (List.mem_append_left _ hx))) (trodAll_mk1 (Below.trod laidOut (by kernel_rfl) (of_decide_eq_true (by kernel_rfl)) h1k hnx (fun x hx => hlt x (List.mem_append_right _ hx))))
set_option maxRecDepth 100000 in
theorem lifted (os : Os) (started : os.Started) (H : Type) (enc : TypeId × Value → H) (F : Stop.Interp) :
  ReturnsInHanded {} Tryz.checked os 5 .any ((Rows.OpenSpec.upto Rows.showsSpec).preRow enc Tryz.prog Tryz.f5 Rows.showsUptoRow.domain false Rows.showsUptoRow.laid) (((Rows.OpenSpec.upto Rows.showsSpec).at F).post enc Tryz.prog Tryz.f5 false true false false) := by
 obtain ⟨w0, h1, h2, h3, h4, h5⟩ := laid_world os
 refine returnsInHanded_of_row (C := Tryz.checked) (s := Rows.OpenSpec.upto Rows.showsSpec) own started (by kernel_rfl) Tryz.func5
  (witness_row_at (enc := enc) (C := Tryz.checked) false w0 #[.agg #[.slice none 0 0, .slice none 0 0], .slice none 0 0] h1 h2 h3 h4 (h5 H enc)) ?_
 intro W base args ds gs before hval hW _ hcond _ hL _ _
 exact contract H enc W base args ds gs before hval hW (hcond _ rfl) (err_of_laid hL)
theorem said : Rows.ShowsUptoSaid :=
 OpenClaim.holds_of_cond 5 Tryz.f5 rfl rfl rfl rfl rfl rfl rfl ⟨rfl, rfl, rfl, rfl, rfl⟩ rfl rfl rfl rfl rfl (by kernel_rfl) Tryz.func5 (by kernel_rfl)
  (of_decide_eq_true (by kernel_rfl)) (by unfold Func.isWrapper; first | (rw [if_pos (by decide +kernel)]; kernel_rfl) | (rw [if_neg (by decide +kernel)]; exact ⟨rfl, rfl⟩))
  (fun os started H enc _ F => by rw [OpenClaim.pre_eq_preRow]; exact lifted os started H enc F)
theorem plain (f : FuncId) (fn : Func) (hf : Tryz.pinned.checked.prog.funcNamed Rows.showsUptoRow.func = some f) (hfn : Tryz.pinned.checked.prog.funcs[f]? = some fn) :
  true = Tryz.pinned.checked.prog.looks [] ∧ ∀ (j : Nat) t, fn.params[j]? = some t → Tryz.pinned.checked.prog.wantsStandIn t = false := by
 obtain rfl : f = 5 := Option.some.inj ((show Tryz.prog.funcNamed Rows.showsUptoRow.func = some 5 by kernel_rfl).symm.trans hf) |>.symm
 obtain rfl : fn = Tryz.f5 := (Option.some.inj (Tryz.func5.symm.trans hfn)).symm
 refine ⟨by kernel_rfl, fun j t ht => ?_⟩
 rw [Tryz.params5] at ht
 have hm : t = 36 ∨ t = 41 := by simpa using Array.mem_of_getElem? ht
 rcases hm with rfl | rfl
 ·exact (show Tryz.prog.wantsStandIn 36 = false by kernel_rfl)
 ·exact (show Tryz.prog.wantsStandIn 41 = false by kernel_rfl)
end OfShows
theorem shows_holds : Rows.ShowsUptoCardSaid :=
 Claim7.holds_tied_plain_at .later [] _ _ _ _ OfShows.said (fun _ h => by cases h) (by kernel_rfl) (fun _ h => by cases h) showsUpto_row_tie rfl ⟨rfl, rfl⟩ (by kernel_rfl) rfl OfShows.plain (by kernel_rfl)
#print axioms shows_holds
end Go.Proofs.YtdipojfngdceoaaGreatDoor
