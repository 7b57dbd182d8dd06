/- The law of Cauchy and Schwarz: the square of an inner product is at most the product of those of the two lists with themselves: it answers true for every two lists. No conditions beyond those of the given statement. -/
import Derived.Test.YthfpcebcfjlkmacG12
import Derived.Test.YthfpcebcfjlkmacRows
import Derived.SizedLaws
namespace Go.Proofs.Ythfpcebcfjlkmac
open Go.ChangeShapes Go.WideShapes Go.ChangeAt Go.RowKit
set_option linter.unusedVariables false
theorem rationalSchwarz_own : ownKnob Try.prog.godebug = none := by kernel_rfl
theorem rationalSchwarz_laid : laidOutB Try.prog = true := by kernel_rfl
theorem rationalSchwarz_rat : RatTy Try.prog 25 48 := ⟨⟨_, _, _, Try.underlying25, rfl, rfl, rfl, Try.underlying4, Try.underlying23, Try.underlying23, by kernel_rfl, by kernel_rfl, by kernel_rfl⟩, by kernel_rfl, Try.underlying48, by kernel_rfl, by kernel_rfl⟩
set_option maxRecDepth 100000 in
theorem rationalSchwarz_lifted (os : Os) (started : os.Started) (H : Type) (enc : TypeId × Value → H) :
    ReturnsInHanded {} Try.checked os 5 .any (Go.Proofs.Ythfpcebcfjlkmac.Rows.rationalSchwarzSpec.pre6 enc Try.prog Try.f5 Go.Proofs.Ythfpcebcfjlkmac.Rows.rationalSchwarzRow.domain false) (Go.Proofs.Ythfpcebcfjlkmac.Rows.rationalSchwarzSpec.post enc Try.prog Try.f5 false true false false) := by
  refine returnsInHanded_of_change_sized (C := Try.checked) rationalSchwarz_own started (by kernel_rfl) Try.func5
    (ChangeSpec.witness6 (enc := enc) (C := Try.checked) false ⟨#[], #[.slice none 0 0, .slice none 0 0], []⟩ 8 (by kernel_rfl) (by kernel_rfl) (by kernel_rfl) (by kernel_rfl)) ?_
  intro W base args ds gs before hval0 hW hcnd hsz0 _
  have hval : ∀ (j : Nat) t v, Try.f5.params[j]? = some t → args[j]? = some v → Value.okWide Try.prog W .any base t v := hval0
  have hW' := hW
  obtain ⟨p, q, hA0, hV, rfl, hfz, hnd⟩ := hW
  have hA : DataW.TrodAll enc Try.prog W 0 (fun _ => true) true Try.f5.params.toList args.toList ds p := hA0
  have hsz : (DataW.weightsEach Try.prog (Try.f5.params.toList ++ Go.Proofs.Ythfpcebcfjlkmac.Rows.rationalSchwarzSpec.plain.varTypes Try.prog) (ds ++ gs)).all (· ≤ reachBytes) = true := hsz0
  rw [Try.params5] at hA hval hsz
  obtain ⟨v0, vs0, d0, ds0, p0, q0, hargs, rfl, rfl, h0, r0⟩ := trodAll_cons hA
  obtain ⟨v1, vs1, d1, ds1, p1, q1, rfl, rfl, rfl, h1, r1⟩ := trodAll_cons r0
  obtain ⟨rfl, rfl, rfl⟩ := trodAll_nil r1
  obtain rfl : args = #[v0, v1] := by cases args; simp_all
  obtain ⟨rfl, rfl⟩ := trodVars_none hV
  obtain ⟨a0, len0, cap0, rfl⟩ := okWide_slice Try.underlying35 (hval 0 35 v0 rfl rfl)
  have k0 := h0
  have lt0 : ∀ x ∈ p0, x.block < W.heap.size := by obtain ⟨m, hm⟩ := k0; exact DataW.trod_lt m _ _ _ hm
  obtain ⟨cs0, rs0, R0, M0, L0, z0, zz0⟩ := rats_arg Try.underlying35 rationalSchwarz_rat (k := 56) (by kernel_rfl) h0 (sized_arg hsz (j := 0) rfl rfl)
  obtain ⟨a1, len1, cap1, rfl⟩ := okWide_slice Try.underlying35 (hval 1 35 v1 rfl rfl)
  have k1 := h1
  have lt1 : ∀ x ∈ p1, x.block < W.heap.size := by obtain ⟨m, hm⟩ := k1; exact DataW.trod_lt m _ _ _ hm
  obtain ⟨cs1, rs1, R1, M1, L1, z1, zz1⟩ := rats_arg Try.underlying35 rationalSchwarz_rat (k := 56) (by kernel_rfl) h1 (sized_arg hsz (j := 1) rfl rfl)
  clear hA0 hval0
  refine (RationalSchwarz_c R0 M0 R1 M1 L0 L1 (rlen_sz z0) (rlen_sz z1)).mono fun e W' ⟨v, he, hv, bel'⟩ => ?_
  subst he; subst hv
  have bel := bel_of bel'
  exact ⟨_, rfl, _, _, _, [], _, [], hW', trodAll_mk1 (shut_bool Try.underlying4 _), (trodAll_cons_mk (Below.trod rationalSchwarz_laid (by kernel_rfl) (of_decide_eq_true (by kernel_rfl)) k0 bel lt0) (trodAll_cons_mk (Below.trod rationalSchwarz_laid (by kernel_rfl) (of_decide_eq_true (by kernel_rfl)) k1 bel lt1) trodAll_mk0)), rfl, bel.frame _, fun h => by cases h⟩
theorem rationalSchwarz_holds : Go.Proofs.Ythfpcebcfjlkmac.Rows.RationalSchwarzSaid :=
  OpenClaim.holds_of_wide 5 Try.f5 rfl rfl rfl rfl rfl rfl rfl ⟨rfl, rfl, rfl, rfl, rfl⟩ rfl rfl rfl rfl rfl (by kernel_rfl) Try.func5 (by kernel_rfl)
    (of_decide_eq_true (by kernel_rfl)) (by unfold Func.isWrapper; first | (rw [if_pos (by decide +kernel)]; kernel_rfl) | (rw [if_neg (by decide +kernel)]; exact ⟨rfl, rfl⟩))
    (fun os started H enc _ => rationalSchwarz_lifted os started H enc)
end Go.Proofs.Ythfpcebcfjlkmac
