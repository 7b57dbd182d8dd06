/- The law that a system of equations has the solution, or the error, of the reference: it answers true for every input. No conditions beyond those of the given statement. -/
import Derived.Test.YtiboieijhehjnaaMatrixSolveG10
import Derived.Test.YtiboieijhehjnaaRows
namespace Go.Proofs.Ytiboieijhehjnaa
open Go.ChangeShapes Go.WideShapes Go.ChangeAt Go.RowKit
set_option linter.unusedVariables false
theorem Jcu : ownKnob Try.prog.godebug = none := by kernel_rfl
theorem Yj : laidOutB Try.prog = true := by kernel_rfl
theorem Jcv : Ty2S Try.prog 24 3 := ⟨⟨_, _, _, Try.underlying24, rfl, rfl, rfl, Try.underlying3, Try.underlying3, Try.underlying22, by kernel_rfl, by kernel_rfl, by kernel_rfl⟩, by kernel_rfl, Try.underlying3, by kernel_rfl⟩
theorem Jdx : TyMt Try.prog 27 22 3 := ⟨⟨_, _, Try.underlying27, rfl, rfl, Try.underlying3, Try.underlying25, by kernel_rfl, by kernel_rfl⟩, by kernel_rfl, Try.underlying22, Try.underlying3, by kernel_rfl, by kernel_rfl⟩
set_option maxRecDepth 100000 in
theorem Jaj (os : Os) (started : os.Started) (H : Type) (enc : TypeId × Value -> H) :
    ReturnsInHanded {} Try.checked os 8 .any (Go.Proofs.Ytiboieijhehjnaa.Rows.matrixSolveSpec.pre6 enc Try.prog Try.f8 Go.Proofs.Ytiboieijhehjnaa.Rows.matrixSolveRow.domain false) (Go.Proofs.Ytiboieijhehjnaa.Rows.matrixSolveSpec.post enc Try.prog Try.f8 false true false false) := by
  refine returnsInHanded_of_change (C := Try.checked) Jcu started (by kernel_rfl) Try.func8
    (ChangeSpec.witness6 (enc := enc) (C := Try.checked) false ⟨#[], #[.agg #[.int .i64 0, .int .i64 0, .slice none 0 0], .agg #[.int .i64 0, .slice none 0 0], .slice none 0 0], []⟩ 8 (by kernel_rfl) (by kernel_rfl) (by kernel_rfl) (by kernel_rfl)) ?_
  intro W base args ds gs before hval0 hW hcnd _
  have hval : ∀ (j : Nat) t v, Try.f8.params[j]? = some t -> args[j]? = some v -> Value.okWide Try.prog W .any base t v := hval0
  have hW' := hW
  obtain ⟨p, q, hA0, hV, rfl, hfz, hnd⟩ := hW
  have hA : DataW.TrodAll enc Try.prog W 0 (fun _ => true) true Try.f8.params.toList args.toList ds p := hA0
  rw [Try.params8] at hA hval
  obtain ⟨v0, vs0, d0, ds0, p0, q0, hargs, rfl, rfl, h0, r0⟩ := trodAll_cons hA
  obtain ⟨v1, vs1, d1, ds1, p1, q1, rfl, rfl, rfl, h1, r1⟩ := trodAll_cons r0
  obtain ⟨v2, vs2, d2, ds2, p2, q2, rfl, rfl, rfl, h2, r2⟩ := trodAll_cons r1
  obtain ⟨rfl, rfl, rfl⟩ := trodAll_nil r2
  obtain rfl : args = #[v0, v1, v2] := by cases args; simp_all
  obtain ⟨rfl, rfl⟩ := trodVars_none hV
  obtain ⟨cs0, rfl, _⟩ := okWide_struct Try.underlying24 (hval 0 24 v0 rfl rfl)
  have k0 := h0
  have lt0 : ∀ x ∈ p0, x.block < W.heap.size := by obtain ⟨m, hm⟩ := k0; exact DataW.trod_lt m _ _ _ hm
  obtain ⟨a0, b0, A0, m0, c0, x0, rfl, R0⟩ := Jrt Jcv h0
  obtain ⟨cs1, rfl, _⟩ := okWide_struct Try.underlying27 (hval 1 27 v1 rfl rfl)
  have k1 := h1
  have lt1 : ∀ x ∈ p1, x.block < W.heap.size := by obtain ⟨m, hm⟩ := k1; exact DataW.trod_lt m _ _ _ hm
  obtain ⟨C1, A1, m1, c1, x1, rfl, R1⟩ := Jrj Jdx h1
  obtain ⟨a2, len2, cap2, rfl⟩ := okWide_slice Try.underlying22 (hval 2 22 v2 rfl rfl)
  have k2 := h2
  have lt2 : ∀ x ∈ p2, x.block < W.heap.size := by obtain ⟨m, hm⟩ := k2; exact DataW.trod_lt m _ _ _ hm
  obtain ⟨x2, R2⟩ := Jo9 Try.underlying22 Try.underlying3 (by kernel_rfl) h2
  clear hA0 hval0
  refine (Jmk R0 R1 R2 (Jcw _ _ _ _ _ _ )).mono fun e W' ⟨v, Qr, he, bel', _, _, r, hv, _, hr⟩ => ?_
  subst he; subst hr; subst hv
  have bel := bel_of bel'
  exact ⟨_, rfl, _, _, _, [], _, [], hW', trodAll_mk1 (shut_bool Try.underlying4 _), (trodAll_cons_mk (Below.trod Yj (by kernel_rfl) (of_decide_eq_true (by kernel_rfl)) k0 bel lt0) (trodAll_cons_mk (Below.trod Yj (by kernel_rfl) (of_decide_eq_true (by kernel_rfl)) k1 bel lt1) (trodAll_cons_mk (Below.trod Yj (by kernel_rfl) (of_decide_eq_true (by kernel_rfl)) k2 bel lt2) trodAll_mk0))), rfl, bel.frame _, fun h => by cases h⟩
theorem Jak : joinedFacts Try.checked.prog 8 Try.f8 Go.Proofs.Ytiboieijhehjnaa.Rows.matrixSolveSpec Go.Proofs.Ytiboieijhehjnaa.Rows.matrixSolveRow = true := by
  unfold joinedFacts
  exact Jao (Jao (Jao (Jao (Jao (Jao (Jao (by kernel_rfl) Ji2) (by rw [Jg9]; kernel_rfl)) (by rw [Jl8]; kernel_rfl)) (by kernel_rfl)) (by kernel_rfl)) (by kernel_rfl)) (by kernel_rfl)
theorem matrixSolve_holds : Go.Proofs.Ytiboieijhehjnaa.Rows.MatrixSolveSaid :=
  OpenClaim.holds_of_wide 8 Try.f8 rfl rfl rfl rfl rfl rfl rfl ⟨rfl, rfl, rfl, rfl, rfl⟩ rfl rfl rfl rfl rfl (by kernel_rfl) Try.func8 Jak
    (of_decide_eq_true (by kernel_rfl)) (by unfold Func.isWrapper; first | (rw [if_pos (by decide +kernel)]; kernel_rfl) | (rw [if_neg (by decide +kernel)]; exact ⟨rfl, rfl⟩))
    (fun os started H enc _ => Jaj os started H enc)
end Go.Proofs.Ytiboieijhehjnaa
