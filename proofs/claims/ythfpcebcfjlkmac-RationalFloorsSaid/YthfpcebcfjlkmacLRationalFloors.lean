/- The law of floors: the floor is the only integer that fits, and Whole knows the integers of at least 0: it answers true for every fraction. No conditions beyond those of the given statement. -/
import Derived.Test.YthfpcebcfjlkmacRows
import Derived.Test.YthfpcebcfjlkmacArgs
import Derived.SizedLaws
import Derived.Test.YthfpcebcfjlkmacW28
import Derived.Test.YthfpcebcfjlkmacArgs2
namespace Go.Proofs.Ythfpcebcfjlkmac
open Go.ChangeShapes Go.WideShapes Go.ChangeAt Go.RowKit
set_option linter.unusedVariables false
theorem rationalFloors_own : ownKnob Try.prog.godebug = none := by kernel_rfl
theorem rationalFloors_laid : laidOutB Try.prog = true := by kernel_rfl
theorem rationalFloors_rat : RatTy Try.prog 25 48 := ⟨⟨_, _, _, Try.underlying25, rfl, rfl, rfl, Try.underlying4, Try.underlying23, Try.underlying23, by kernel_rfl, by kernel_rfl, by kernel_rfl⟩, by kernel_rfl, Try.underlying48, by kernel_rfl, by kernel_rfl⟩
set_option maxRecDepth 100000 in
theorem rationalFloors_lifted (os : Os) (started : os.Started) (H : Type) (enc : TypeId × Value → H) :
    ReturnsInHanded {} Try.checked os 3 .any (Go.Proofs.Ythfpcebcfjlkmac.Rows.rationalFloorsSpec.pre6 enc Try.prog Try.f3 Go.Proofs.Ythfpcebcfjlkmac.Rows.rationalFloorsRow.domain false) (Go.Proofs.Ythfpcebcfjlkmac.Rows.rationalFloorsSpec.post enc Try.prog Try.f3 false true false false) := by
  refine returnsInHanded_of_change_sized (C := Try.checked) rationalFloors_own started (by kernel_rfl) Try.func3
    (ChangeSpec.witness6 (enc := enc) (C := Try.checked) false ⟨#[], #[.agg #[.bool false, .slice none 0 0, .slice none 0 0]], []⟩ 8 (by kernel_rfl) (by kernel_rfl) (by kernel_rfl) (by kernel_rfl)) ?_
  intro W base args ds gs before hval0 hW hcnd hsz0 _
  have hval : ∀ (j : Nat) t v, Try.f3.params[j]? = some t → args[j]? = some v → Value.okWide Try.prog W .any base t v := hval0
  have hW' := hW
  obtain ⟨p, q, hA0, hV, rfl, hfz, hnd⟩ := hW
  have hA : DataW.TrodAll enc Try.prog W 0 (fun _ => true) true Try.f3.params.toList args.toList ds p := hA0
  have hsz : (DataW.weightsEach Try.prog (Try.f3.params.toList ++ Go.Proofs.Ythfpcebcfjlkmac.Rows.rationalFloorsSpec.plain.varTypes Try.prog) (ds ++ gs)).all (· ≤ reachBytes) = true := hsz0
  rw [Try.params3] at hA hval hsz
  obtain ⟨v0, vs0, d0, ds0, p0, q0, hargs, rfl, rfl, h0, r0⟩ := trodAll_cons hA
  obtain ⟨rfl, rfl, rfl⟩ := trodAll_nil r0
  obtain rfl : args = #[v0] := by cases args; simp_all
  obtain ⟨rfl, rfl⟩ := trodVars_none hV
  obtain ⟨cs0, rfl, _⟩ := okWide_struct Try.underlying25 (hval 0 25 v0 rfl rfl)
  have k0 := h0
  have lt0 : ∀ x ∈ p0, x.block < W.heap.size := by obtain ⟨m, hm⟩ := k0; exact DataW.trod_lt m _ _ _ hm
  obtain ⟨n0, an0, mn0, cn0, ad0, md0, cd0, xn0, xd0, rfl, Rn0, Ln0, zn0, Rd0, Ld0, zd0⟩ := rat_arg rationalFloors_rat h0 (sized_arg hsz (j := 0) rfl rfl)
  clear hA0 hval0
  refine (RationalFloors_c Rn0 Rd0 Ln0 Ld0 ⟨zn0, zd0⟩).mono fun e W' ⟨v, he, hv, bel'⟩ => ?_
  subst he; subst hv
  have bel := bel_of bel'
  exact ⟨_, rfl, _, _, _, [], _, [], hW', trodAll_mk1 (shut_bool Try.underlying4 _), (trodAll_cons_mk (Below.trod rationalFloors_laid (by kernel_rfl) (of_decide_eq_true (by kernel_rfl)) k0 bel lt0) trodAll_mk0), rfl, bel.frame _, fun h => by cases h⟩
theorem rationalFloors_holds : Go.Proofs.Ythfpcebcfjlkmac.Rows.RationalFloorsSaid :=
  OpenClaim.holds_of_wide 3 Try.f3 rfl rfl rfl rfl rfl rfl rfl ⟨rfl, rfl, rfl, rfl, rfl⟩ rfl rfl rfl rfl rfl (by kernel_rfl) Try.func3 (by kernel_rfl)
    (of_decide_eq_true (by kernel_rfl)) (by unfold Func.isWrapper; first | (rw [if_pos (by decide +kernel)]; kernel_rfl) | (rw [if_neg (by decide +kernel)]; exact ⟨rfl, rfl⟩))
    (fun os started H enc _ => rationalFloors_lifted os started H enc)
end Go.Proofs.Ythfpcebcfjlkmac
