/- The law of powers of fractions: Pow answers the specified power, or the specified error, for every fraction and every exponent: it answers true. No conditions beyond those of the given statement. -/
import Derived.Test.YthfpcebcfjlkmabRationalPowersG9
import Derived.Test.YthfpcebcfjlkmabRows
import Derived.SizedLaws
namespace Go.Proofs.Ythfpcebcfjlkmab
open Go.ChangeShapes Go.WideShapes Go.ChangeAt Go.RowKit
set_option linter.unusedVariables false
theorem rationalPowers_own : ownKnob Try.prog.godebug = none := by kernel_rfl
theorem rationalPowers_laid : laidOutB Try.prog = true := by kernel_rfl
theorem rationalPowers_rat : RatTy Try.prog 31 43 := ⟨⟨_, _, _, Try.underlying31, rfl, rfl, rfl, Try.underlying4, Try.underlying23, Try.underlying23, by kernel_rfl, by kernel_rfl, by kernel_rfl⟩, by kernel_rfl, Try.underlying43, by kernel_rfl, by kernel_rfl⟩
set_option maxRecDepth 100000 in
theorem rationalPowers_lifted (os : Os) (started : os.Started) (H : Type) (enc : TypeId × Value → H) :
    ReturnsInHanded {} Try.checked os 11 .any (Go.Proofs.Ythfpcebcfjlkmab.Rows.rationalPowersSpec.pre6 enc Try.prog Try.f11 Go.Proofs.Ythfpcebcfjlkmab.Rows.rationalPowersRow.domain false) (Go.Proofs.Ythfpcebcfjlkmab.Rows.rationalPowersSpec.post enc Try.prog Try.f11 false true false false) := by
  refine returnsInHanded_of_change_sized (C := Try.checked) rationalPowers_own started (by kernel_rfl) Try.func11
    (ChangeSpec.witness6 (enc := enc) (C := Try.checked) false ⟨#[], #[.agg #[.bool false, .slice none 0 0, .slice none 0 0], .int .i64 0], []⟩ 8 (by kernel_rfl) (by kernel_rfl) (by kernel_rfl) (by kernel_rfl)) ?_
  intro W base args ds gs before hval0 hW hcnd hsz0 _
  have hval : ∀ (j : Nat) t v, Try.f11.params[j]? = some t → args[j]? = some v → Value.okWide Try.prog W .any base t v := hval0
  have hW' := hW
  obtain ⟨p, q, hA0, hV, rfl, hfz, hnd⟩ := hW
  have hA : DataW.TrodAll enc Try.prog W 0 (fun _ => true) true Try.f11.params.toList args.toList ds p := hA0
  have hsz : (DataW.weightsEach Try.prog (Try.f11.params.toList ++ Go.Proofs.Ythfpcebcfjlkmab.Rows.rationalPowersSpec.plain.varTypes Try.prog) (ds ++ gs)).all (· ≤ reachBytes) = true := hsz0
  rw [Try.params11] at hA hval hsz
  obtain ⟨v0, vs0, d0, ds0, p0, q0, hargs, rfl, rfl, h0, r0⟩ := trodAll_cons hA
  obtain ⟨v1, vs1, d1, ds1, p1, q1, rfl, rfl, rfl, h1, r1⟩ := trodAll_cons r0
  obtain ⟨rfl, rfl, rfl⟩ := trodAll_nil r1
  obtain rfl : args = #[v0, v1] := by cases args; simp_all
  obtain ⟨rfl, rfl⟩ := trodVars_none hV
  obtain ⟨cs0, rfl, _⟩ := okWide_struct Try.underlying31 (hval 0 31 v0 rfl rfl)
  have k0 := h0
  have lt0 : ∀ x ∈ p0, x.block < W.heap.size := by obtain ⟨m, hm⟩ := k0; exact DataW.trod_lt m _ _ _ hm
  obtain ⟨n0, an0, mn0, cn0, ad0, md0, cd0, xn0, xd0, rfl, Rn0, Ln0, zn0, Rd0, Ld0, zd0⟩ := rat_arg rationalPowers_rat h0 (sized_arg hsz (j := 0) rfl rfl)
  obtain ⟨a1, rfl, rfl, rfl, w1⟩ := open_int Try.underlying3 (hval 1 3 v1 rfl rfl) h1
  have hb1 := int_arg w1
  clear hA0 hval0
  refine (RationalPowers_c Rn0 Rd0 Ln0 Ld0 ⟨zn0, zd0⟩ hb1).mono fun e W' ⟨v, he, hv, bel'⟩ => ?_
  subst he; subst hv
  have bel := bel_of bel'
  exact ⟨_, rfl, _, _, _, [], _, [], hW', trodAll_mk1 (shut_bool Try.underlying4 _), (trodAll_cons_mk (Below.trod rationalPowers_laid (by kernel_rfl) (of_decide_eq_true (by kernel_rfl)) k0 bel lt0) (trodAll_cons_mk (shut_int Try.underlying3 w1) trodAll_mk0)), rfl, bel.frame _, fun h => by cases h⟩
theorem rationalPowers_holds : Go.Proofs.Ythfpcebcfjlkmab.Rows.RationalPowersSaid :=
  OpenClaim.holds_of_wide 11 Try.f11 rfl rfl rfl rfl rfl rfl rfl ⟨rfl, rfl, rfl, rfl, rfl⟩ rfl rfl rfl rfl rfl (by kernel_rfl) Try.func11 (by kernel_rfl)
    (of_decide_eq_true (by kernel_rfl)) (by unfold Func.isWrapper; first | (rw [if_pos (by decide +kernel)]; kernel_rfl) | (rw [if_neg (by decide +kernel)]; exact ⟨rfl, rfl⟩))
    (fun os started H enc _ => rationalPowers_lifted os started H enc)
end Go.Proofs.Ythfpcebcfjlkmab
