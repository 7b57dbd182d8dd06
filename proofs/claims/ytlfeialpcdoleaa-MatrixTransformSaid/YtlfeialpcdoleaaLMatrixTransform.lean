/- The law of the recorded elimination: it is the reference's, and its transformation is invertible and gives the reduced matrix: it answers true for every input. No conditions beyond those of the given statement. -/
import Derived.Test.YtlfeialpcdoleaaMatrixTransformG11
import Derived.Test.YtlfeialpcdoleaaRows
namespace Go.Proofs.Ytlfeialpcdoleaa
open Go.ChangeShapes Go.WideShapes Go.ChangeAt Go.RowKit
set_option linter.unusedVariables false
theorem Jbi : ownKnob Try.prog.godebug = none := by kernel_rfl
theorem YN : laidOutB Try.prog = true := by kernel_rfl
theorem Jbj : Ty2S Try.prog 24 3 := ⟨⟨_, _, _, Try.underlying24, rfl, rfl, rfl, Try.underlying3, Try.underlying3, Try.underlying22, by kernel_rfl, by kernel_rfl, by kernel_rfl⟩, by kernel_rfl, Try.underlying3, by kernel_rfl⟩
theorem Jbv : TyMt Try.prog 27 22 3 := ⟨⟨_, _, Try.underlying27, rfl, rfl, Try.underlying3, Try.underlying25, by kernel_rfl, by kernel_rfl⟩, by kernel_rfl, Try.underlying22, Try.underlying3, by kernel_rfl, by kernel_rfl⟩
set_option maxRecDepth 100000 in
theorem Z7 (os : Os) (started : os.Started) (H : Type) (enc : TypeId × Value -> H) :
    ReturnsInHanded {} Try.checked os 6 .any (Go.Proofs.Ytlfeialpcdoleaa.Rows.matrixTransformSpec.pre6 enc Try.prog Try.f6 Go.Proofs.Ytlfeialpcdoleaa.Rows.matrixTransformRow.domain false) (Go.Proofs.Ytlfeialpcdoleaa.Rows.matrixTransformSpec.post enc Try.prog Try.f6 false true false false) := by
  refine returnsInHanded_of_change (C := Try.checked) Jbi started (by kernel_rfl) Try.func6
    (ChangeSpec.witness6 (enc := enc) (C := Try.checked) false ⟨#[], #[.agg #[.int .i64 0, .int .i64 0, .slice none 0 0], .agg #[.int .i64 0, .slice none 0 0]], []⟩ 8 (by kernel_rfl) (by kernel_rfl) (by kernel_rfl) (by kernel_rfl)) ?_
  intro W base args ds gs before hval0 hW hcnd _
  have hval : ∀ (j : Nat) t v, Try.f6.params[j]? = some t -> args[j]? = some v -> Value.okWide Try.prog W .any base t v := hval0
  have hW' := hW
  obtain ⟨p, q, hA0, hV, rfl, hfz, hnd⟩ := hW
  have hA : DataW.TrodAll enc Try.prog W 0 (fun _ => true) true Try.f6.params.toList args.toList ds p := hA0
  rw [Try.params6] at hA hval
  obtain ⟨v0, vs0, d0, ds0, p0, q0, hargs, rfl, rfl, h0, r0⟩ := trodAll_cons hA
  obtain ⟨v1, vs1, d1, ds1, p1, q1, rfl, rfl, rfl, h1, r1⟩ := trodAll_cons r0
  obtain ⟨rfl, rfl, rfl⟩ := trodAll_nil r1
  obtain rfl : args = #[v0, v1] := by cases args; simp_all
  obtain ⟨rfl, rfl⟩ := trodVars_none hV
  obtain ⟨cs0, rfl, _⟩ := okWide_struct Try.underlying24 (hval 0 24 v0 rfl rfl)
  have k0 := h0
  have lt0 : ∀ x ∈ p0, x.block < W.heap.size := by obtain ⟨m, hm⟩ := k0; exact DataW.trod_lt m _ _ _ hm
  obtain ⟨a0, b0, A0, m0, c0, x0, rfl, R0⟩ := Juk Jbj h0
  obtain ⟨cs1, rfl, _⟩ := okWide_struct Try.underlying27 (hval 1 27 v1 rfl rfl)
  have k1 := h1
  have lt1 : ∀ x ∈ p1, x.block < W.heap.size := by obtain ⟨m, hm⟩ := k1; exact DataW.trod_lt m _ _ _ hm
  obtain ⟨C1, A1, m1, c1, x1, rfl, R1⟩ := Jt9 Jbv h1
  clear hA0 hval0
  refine (Jgc R0 R1 (Jbk _ _ _ _ _ )).mono fun e W' ⟨v, Qr, he, bel', _, _, r, hv, _, hr⟩ => ?_
  subst he; subst hr; subst hv
  have bel := bel_of bel'
  exact ⟨_, rfl, _, _, _, [], _, [], hW', trodAll_mk1 (shut_bool Try.underlying4 _), (trodAll_cons_mk (Below.trod YN (by kernel_rfl) (of_decide_eq_true (by kernel_rfl)) k0 bel lt0) (trodAll_cons_mk (Below.trod YN (by kernel_rfl) (of_decide_eq_true (by kernel_rfl)) k1 bel lt1) trodAll_mk0)), rfl, bel.frame _, fun h => by cases h⟩
theorem Z8 : joinedFacts Try.checked.prog 6 Try.f6 Go.Proofs.Ytlfeialpcdoleaa.Rows.matrixTransformSpec Go.Proofs.Ytlfeialpcdoleaa.Rows.matrixTransformRow = true := by
  unfold joinedFacts
  exact Jb0 (Jb0 (Jb0 (Jb0 (Jb0 (Jb0 (Jb0 (by kernel_rfl) Jkz) (by rw [Ji5]; kernel_rfl)) (by rw [Jof]; kernel_rfl)) (by kernel_rfl)) (by kernel_rfl)) (by kernel_rfl)) (by kernel_rfl)
theorem matrixTransform_holds : Go.Proofs.Ytlfeialpcdoleaa.Rows.MatrixTransformSaid :=
  OpenClaim.holds_of_wide 6 Try.f6 rfl rfl rfl rfl rfl rfl rfl ⟨rfl, rfl, rfl, rfl, rfl⟩ rfl rfl rfl rfl rfl (by kernel_rfl) Try.func6 Z8
    (of_decide_eq_true (by kernel_rfl)) (by unfold Func.isWrapper; first | (rw [if_pos (by decide +kernel)]; kernel_rfl) | (rw [if_neg (by decide +kernel)]; exact ⟨rfl, rfl⟩))
    (fun os started H enc _ => Z7 os started H enc)
end Go.Proofs.Ytlfeialpcdoleaa
