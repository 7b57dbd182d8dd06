/- The law of ratios: Ratio answers the quotient of two naturals, or the error for a denominator 0: it answers true for every two naturals. No conditions beyond those of the given statement. -/
import Derived.Test.YthfpcebcfjlkmabRows
import Derived.Test.YthfpcebcfjlkmabArgs
import Derived.SizedLaws
import Derived.Test.YthfpcebcfjlkmabW20
import Derived.Test.YthfpcebcfjlkmabArgs2
namespace Go.Proofs.Ythfpcebcfjlkmab
open Go.ChangeShapes Go.WideShapes Go.ChangeAt Go.RowKit
set_option linter.unusedVariables false
theorem rationalRatios_own : ownKnob Try.prog.godebug = none := by kernel_rfl
theorem rationalRatios_laid : laidOutB Try.prog = true := by kernel_rfl
theorem rationalRatios_bytes4 : Try.prog.bytesOf 43 = 4 := by kernel_rfl
set_option maxRecDepth 100000 in
theorem rationalRatios_lifted (os : Os) (started : os.Started) (H : Type) (enc : TypeId × Value → H) :
    ReturnsInHanded {} Try.checked os 6 .any (Go.Proofs.Ythfpcebcfjlkmab.Rows.rationalRatiosSpec.pre6 enc Try.prog Try.f6 Go.Proofs.Ythfpcebcfjlkmab.Rows.rationalRatiosRow.domain false) (Go.Proofs.Ythfpcebcfjlkmab.Rows.rationalRatiosSpec.post enc Try.prog Try.f6 false true false false) := by
  refine returnsInHanded_of_change_sized (C := Try.checked) rationalRatios_own started (by kernel_rfl) Try.func6
    (ChangeSpec.witness6 (enc := enc) (C := Try.checked) false ⟨#[], #[.slice none 0 0, .slice none 0 0], []⟩ 8 (by kernel_rfl) (by kernel_rfl) (by kernel_rfl) (by kernel_rfl)) ?_
  intro W base args ds gs before hval0 hW hcnd hsz0 _
  have hval : ∀ (j : Nat) t v, Try.f6.params[j]? = some t → args[j]? = some v → Value.okWide Try.prog W .any base t v := hval0
  have hW' := hW
  obtain ⟨p, q, hA0, hV, rfl, hfz, hnd⟩ := hW
  have hA : DataW.TrodAll enc Try.prog W 0 (fun _ => true) true Try.f6.params.toList args.toList ds p := hA0
  have hsz : (DataW.weightsEach Try.prog (Try.f6.params.toList ++ Go.Proofs.Ythfpcebcfjlkmab.Rows.rationalRatiosSpec.plain.varTypes Try.prog) (ds ++ gs)).all (· ≤ reachBytes) = true := hsz0
  rw [Try.params6] at hA hval hsz
  obtain ⟨v0, vs0, d0, ds0, p0, q0, hargs, rfl, rfl, h0, r0⟩ := trodAll_cons hA
  obtain ⟨v1, vs1, d1, ds1, p1, q1, rfl, rfl, rfl, h1, r1⟩ := trodAll_cons r0
  obtain ⟨rfl, rfl, rfl⟩ := trodAll_nil r1
  obtain rfl : args = #[v0, v1] := by cases args; simp_all
  obtain ⟨rfl, rfl⟩ := trodVars_none hV
  obtain ⟨a0, len0, cap0, rfl⟩ := okWide_slice Try.underlying23 (hval 0 23 v0 rfl rfl)
  have k0 := h0
  have lt0 : ∀ x ∈ p0, x.block < W.heap.size := by obtain ⟨m, hm⟩ := k0; exact DataW.trod_lt m _ _ _ hm
  obtain ⟨z0, R0, L0, N0⟩ := nat_arg_d Try.underlying23 Try.underlying43 (by kernel_rfl) h0
  have zz0 : len0 * 4 ≤ 140737488351232 := by
    rcases N0 with ⟨_, rfl⟩ | ⟨es, ss, rfl, hl⟩
    · omega
    · have := sized_slice hsz (j := 0) (t := 23) (e := 43) rfl rfl Try.underlying23
      rw [rationalRatios_bytes4] at this; simp only [reachBytes] at this; omega
  obtain ⟨a1, len1, cap1, rfl⟩ := okWide_slice Try.underlying23 (hval 1 23 v1 rfl rfl)
  have k1 := h1
  have lt1 : ∀ x ∈ p1, x.block < W.heap.size := by obtain ⟨m, hm⟩ := k1; exact DataW.trod_lt m _ _ _ hm
  obtain ⟨z1, R1, L1, N1⟩ := nat_arg_d Try.underlying23 Try.underlying43 (by kernel_rfl) h1
  have zz1 : len1 * 4 ≤ 140737488351232 := by
    rcases N1 with ⟨_, rfl⟩ | ⟨es, ss, rfl, hl⟩
    · omega
    · have := sized_slice hsz (j := 1) (t := 23) (e := 43) rfl rfl Try.underlying23
      rw [rationalRatios_bytes4] at this; simp only [reachBytes] at this; omega
  clear hA0 hval0
  refine (RationalRatios_c R0 R1 L0 L1 zz0 zz1).mono fun e W' ⟨v, he, hv, bel'⟩ => ?_
  subst he; subst hv
  have bel := bel_of bel'
  exact ⟨_, rfl, _, _, _, [], _, [], hW', trodAll_mk1 (shut_bool Try.underlying4 _), (trodAll_cons_mk (Below.trod rationalRatios_laid (by kernel_rfl) (of_decide_eq_true (by kernel_rfl)) k0 bel lt0) (trodAll_cons_mk (Below.trod rationalRatios_laid (by kernel_rfl) (of_decide_eq_true (by kernel_rfl)) k1 bel lt1) trodAll_mk0)), rfl, bel.frame _, fun h => by cases h⟩
theorem rationalRatios_holds : Go.Proofs.Ythfpcebcfjlkmab.Rows.RationalRatiosSaid :=
  OpenClaim.holds_of_wide 6 Try.f6 rfl rfl rfl rfl rfl rfl rfl ⟨rfl, rfl, rfl, rfl, rfl⟩ rfl rfl rfl rfl rfl (by kernel_rfl) Try.func6 (by kernel_rfl)
    (of_decide_eq_true (by kernel_rfl)) (by unfold Func.isWrapper; first | (rw [if_pos (by decide +kernel)]; kernel_rfl) | (rw [if_neg (by decide +kernel)]; exact ⟨rfl, rfl⟩))
    (fun os started H enc _ => rationalRatios_lifted os started H enc)
end Go.Proofs.Ythfpcebcfjlkmab
