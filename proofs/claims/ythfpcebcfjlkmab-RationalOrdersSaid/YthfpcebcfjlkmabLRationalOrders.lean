/- The law of the order of fractions: it is total and transitive and goes with sums and with products by positive fractions: it answers true for every three fractions. No conditions beyond those of the given statement. -/
import Derived.Test.YthfpcebcfjlkmabRows
import Derived.Test.YthfpcebcfjlkmabArgs
import Derived.SizedLaws
import Derived.Test.YthfpcebcfjlkmabW24
import Derived.Test.YthfpcebcfjlkmabArgs2
namespace Go.Proofs.Ythfpcebcfjlkmab
open Go.ChangeShapes Go.WideShapes Go.ChangeAt Go.RowKit
set_option linter.unusedVariables false
theorem rationalOrders_own : ownKnob Try.prog.godebug = none := by kernel_rfl
theorem rationalOrders_laid : laidOutB Try.prog = true := by kernel_rfl
theorem rationalOrders_rat : RatTy Try.prog 31 43 := ⟨⟨_, _, _, Try.underlying31, rfl, rfl, rfl, Try.underlying4, Try.underlying23, Try.underlying23, by kernel_rfl, by kernel_rfl, by kernel_rfl⟩, by kernel_rfl, Try.underlying43, by kernel_rfl, by kernel_rfl⟩
set_option maxRecDepth 100000 in
theorem rationalOrders_lifted (os : Os) (started : os.Started) (H : Type) (enc : TypeId × Value → H) :
    ReturnsInHanded {} Try.checked os 10 .any (Go.Proofs.Ythfpcebcfjlkmab.Rows.rationalOrdersSpec.pre6 enc Try.prog Try.f10 Go.Proofs.Ythfpcebcfjlkmab.Rows.rationalOrdersRow.domain false) (Go.Proofs.Ythfpcebcfjlkmab.Rows.rationalOrdersSpec.post enc Try.prog Try.f10 false true false false) := by
  refine returnsInHanded_of_change_sized (C := Try.checked) rationalOrders_own started (by kernel_rfl) Try.func10
    (ChangeSpec.witness6 (enc := enc) (C := Try.checked) false ⟨#[], #[.agg #[.bool false, .slice none 0 0, .slice none 0 0], .agg #[.bool false, .slice none 0 0, .slice none 0 0], .agg #[.bool false, .slice none 0 0, .slice none 0 0]], []⟩ 8 (by kernel_rfl) (by kernel_rfl) (by kernel_rfl) (by kernel_rfl)) ?_
  intro W base args ds gs before hval0 hW hcnd hsz0 _
  have hval : ∀ (j : Nat) t v, Try.f10.params[j]? = some t → args[j]? = some v → Value.okWide Try.prog W .any base t v := hval0
  have hW' := hW
  obtain ⟨p, q, hA0, hV, rfl, hfz, hnd⟩ := hW
  have hA : DataW.TrodAll enc Try.prog W 0 (fun _ => true) true Try.f10.params.toList args.toList ds p := hA0
  have hsz : (DataW.weightsEach Try.prog (Try.f10.params.toList ++ Go.Proofs.Ythfpcebcfjlkmab.Rows.rationalOrdersSpec.plain.varTypes Try.prog) (ds ++ gs)).all (· ≤ reachBytes) = true := hsz0
  rw [Try.params10] at hA hval hsz
  obtain ⟨v0, vs0, d0, ds0, p0, q0, hargs, rfl, rfl, h0, r0⟩ := trodAll_cons hA
  obtain ⟨v1, vs1, d1, ds1, p1, q1, rfl, rfl, rfl, h1, r1⟩ := trodAll_cons r0
  obtain ⟨v2, vs2, d2, ds2, p2, q2, rfl, rfl, rfl, h2, r2⟩ := trodAll_cons r1
  obtain ⟨rfl, rfl, rfl⟩ := trodAll_nil r2
  obtain rfl : args = #[v0, v1, v2] := by cases args; simp_all
  obtain ⟨rfl, rfl⟩ := trodVars_none hV
  obtain ⟨cs0, rfl, _⟩ := okWide_struct Try.underlying31 (hval 0 31 v0 rfl rfl)
  have k0 := h0
  have lt0 : ∀ x ∈ p0, x.block < W.heap.size := by obtain ⟨m, hm⟩ := k0; exact DataW.trod_lt m _ _ _ hm
  obtain ⟨n0, an0, mn0, cn0, ad0, md0, cd0, xn0, xd0, rfl, Rn0, Ln0, zn0, Rd0, Ld0, zd0⟩ := rat_arg rationalOrders_rat h0 (sized_arg hsz (j := 0) rfl rfl)
  obtain ⟨cs1, rfl, _⟩ := okWide_struct Try.underlying31 (hval 1 31 v1 rfl rfl)
  have k1 := h1
  have lt1 : ∀ x ∈ p1, x.block < W.heap.size := by obtain ⟨m, hm⟩ := k1; exact DataW.trod_lt m _ _ _ hm
  obtain ⟨n1, an1, mn1, cn1, ad1, md1, cd1, xn1, xd1, rfl, Rn1, Ln1, zn1, Rd1, Ld1, zd1⟩ := rat_arg rationalOrders_rat h1 (sized_arg hsz (j := 1) rfl rfl)
  obtain ⟨cs2, rfl, _⟩ := okWide_struct Try.underlying31 (hval 2 31 v2 rfl rfl)
  have k2 := h2
  have lt2 : ∀ x ∈ p2, x.block < W.heap.size := by obtain ⟨m, hm⟩ := k2; exact DataW.trod_lt m _ _ _ hm
  obtain ⟨n2, an2, mn2, cn2, ad2, md2, cd2, xn2, xd2, rfl, Rn2, Ln2, zn2, Rd2, Ld2, zd2⟩ := rat_arg rationalOrders_rat h2 (sized_arg hsz (j := 2) rfl rfl)
  clear hA0 hval0
  refine (RationalOrders_c Rn0 Rd0 Rn1 Rd1 Rn2 Rd2 Ln0 Ld0 ⟨zn0, zd0⟩ Ln1 Ld1 ⟨zn1, zd1⟩ Ln2 Ld2 ⟨zn2, zd2⟩).mono fun e W' ⟨v, he, hv, bel'⟩ => ?_
  subst he; subst hv
  have bel := bel_of bel'
  exact ⟨_, rfl, _, _, _, [], _, [], hW', trodAll_mk1 (shut_bool Try.underlying4 _), (trodAll_cons_mk (Below.trod rationalOrders_laid (by kernel_rfl) (of_decide_eq_true (by kernel_rfl)) k0 bel lt0) (trodAll_cons_mk (Below.trod rationalOrders_laid (by kernel_rfl) (of_decide_eq_true (by kernel_rfl)) k1 bel lt1) (trodAll_cons_mk (Below.trod rationalOrders_laid (by kernel_rfl) (of_decide_eq_true (by kernel_rfl)) k2 bel lt2) trodAll_mk0))), rfl, bel.frame _, fun h => by cases h⟩
theorem rationalOrders_holds : Go.Proofs.Ythfpcebcfjlkmab.Rows.RationalOrdersSaid :=
  OpenClaim.holds_of_wide 10 Try.f10 rfl rfl rfl rfl rfl rfl rfl ⟨rfl, rfl, rfl, rfl, rfl⟩ rfl rfl rfl rfl rfl (by kernel_rfl) Try.func10 (by kernel_rfl)
    (of_decide_eq_true (by kernel_rfl)) (by unfold Func.isWrapper; first | (rw [if_pos (by decide +kernel)]; kernel_rfl) | (rw [if_neg (by decide +kernel)]; exact ⟨rfl, rfl⟩))
    (fun os started H enc _ => rationalOrders_lifted os started H enc)
end Go.Proofs.Ythfpcebcfjlkmab
