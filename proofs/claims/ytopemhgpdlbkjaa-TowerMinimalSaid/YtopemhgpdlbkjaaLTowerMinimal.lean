/- The law of minimal polynomials: it answers true for every input. No conditions beyond those of the given statement. -/
import Derived.Test.YtopemhgpdlbkjaaTowerMinimalG7
import Derived.Test.YtopemhgpdlbkjaaRows
namespace Go.Proofs.Ytopemhgpdlbkjaa
open Go.ChangeShapes Go.WideShapes Go.ChangeAt Go.RowKit
set_option linter.unusedVariables false
theorem ZE : ownKnob Try.prog.godebug = none := by kernel_rfl
theorem Qs : laidOutB Try.prog = true := by kernel_rfl
theorem ZF : Ty2S Try.prog 24 3 := ⟨⟨_, _, _, Try.underlying24, rfl, rfl, rfl, Try.underlying3, Try.underlying3, Try.underlying22, by kernel_rfl, by kernel_rfl, by kernel_rfl⟩, by kernel_rfl, Try.underlying3, by kernel_rfl⟩
set_option maxRecDepth 100000 in
theorem Y1 (os : Os) (started : os.Started) (H : Type) (enc : TypeId × Value -> H) :
    ReturnsInHanded {} Try.checked os 3 .any (Go.Proofs.Ytopemhgpdlbkjaa.Rows.towerMinimalSpec.pre6 enc Try.prog Try.f3 Go.Proofs.Ytopemhgpdlbkjaa.Rows.towerMinimalRow.domain false) (Go.Proofs.Ytopemhgpdlbkjaa.Rows.towerMinimalSpec.post enc Try.prog Try.f3 false true false false) := by
  refine returnsInHanded_of_change (C := Try.checked) ZE started (by kernel_rfl) Try.func3
    (ChangeSpec.witness6 (enc := enc) (C := Try.checked) false ⟨#[], #[.agg #[.int .i64 0, .int .i64 0, .slice none 0 0], .agg #[.int .i64 0, .int .i64 0], .slice none 0 0], []⟩ 8 (by kernel_rfl) (by kernel_rfl) (by kernel_rfl) (by kernel_rfl)) ?_
  intro W base args ds gs before hval0 hW hcnd _
  have hval : ∀ (j : Nat) t v, Try.f3.params[j]? = some t -> args[j]? = some v -> Value.okWide Try.prog W .any base t v := hval0
  have hW' := hW
  obtain ⟨p, q, hA0, hV, rfl, hfz, hnd⟩ := hW
  have hA : DataW.TrodAll enc Try.prog W 0 (fun _ => true) true Try.f3.params.toList args.toList ds p := hA0
  rw [Try.params3] at hA hval
  obtain ⟨v0, vs0, d0, ds0, p0, q0, hargs, rfl, rfl, h0, r0⟩ := trodAll_cons hA
  obtain ⟨v1, vs1, d1, ds1, p1, q1, rfl, rfl, rfl, h1, r1⟩ := trodAll_cons r0
  obtain ⟨v2, vs2, d2, ds2, p2, q2, rfl, rfl, rfl, h2, r2⟩ := trodAll_cons r1
  obtain ⟨rfl, rfl, rfl⟩ := trodAll_nil r2
  obtain rfl : args = #[v0, v1, v2] := by cases args; simp_all
  obtain ⟨rfl, rfl⟩ := trodVars_none hV
  obtain ⟨cs0, rfl, _⟩ := okWide_struct Try.underlying24 (hval 0 24 v0 rfl rfl)
  have k0 := h0
  have lt0 : ∀ x ∈ p0, x.block < W.heap.size := by obtain ⟨m, hm⟩ := k0; exact DataW.trod_lt m _ _ _ hm
  obtain ⟨a0, b0, A0, m0, c0, x0, rfl, R0⟩ := Jpd ZF h0
  obtain ⟨cs1, rfl, _⟩ := Jhb Try.underlying25 (hval 1 25 v1 rfl rfl)
  have k1 := h1
  have lt1 : ∀ x ∈ p1, x.block < W.heap.size := by obtain ⟨m, hm⟩ := k1; exact DataW.trod_lt m _ _ _ hm
  obtain ⟨a1, b1, rfl⟩ := Jne Try.underlying25 Try.underlying3 (by kernel_rfl) (by kernel_rfl) h1
  obtain ⟨a2, len2, cap2, rfl⟩ := okWide_slice Try.underlying22 (hval 2 22 v2 rfl rfl)
  have k2 := h2
  have lt2 : ∀ x ∈ p2, x.block < W.heap.size := by obtain ⟨m, hm⟩ := k2; exact DataW.trod_lt m _ _ _ hm
  obtain ⟨x2, R2⟩ := Jmw Try.underlying22 Try.underlying3 (by kernel_rfl) h2
  clear hA0 hval0
  refine (Jah R0 R2 (ZQ _ _ _)).mono fun e W' ⟨v, Qr, he, bel', _, _, r, hv, _, hr⟩ => ?_
  subst he; subst hr; subst hv
  have bel := bel_of bel'
  exact ⟨_, rfl, _, _, _, [], _, [], hW', trodAll_mk1 (shut_bool Try.underlying4 _), (trodAll_cons_mk (Below.trod Qs (by kernel_rfl) (of_decide_eq_true (by kernel_rfl)) k0 bel lt0) (trodAll_cons_mk (Below.trod Qs (by kernel_rfl) (of_decide_eq_true (by kernel_rfl)) k1 bel lt1) (trodAll_cons_mk (Below.trod Qs (by kernel_rfl) (of_decide_eq_true (by kernel_rfl)) k2 bel lt2) trodAll_mk0))), rfl, bel.frame _, fun h => by cases h⟩
theorem Y2 : joinedFacts Try.checked.prog 3 Try.f3 Go.Proofs.Ytopemhgpdlbkjaa.Rows.towerMinimalSpec Go.Proofs.Ytopemhgpdlbkjaa.Rows.towerMinimalRow = true := by
  unfold joinedFacts
  exact Ze (Ze (Ze (Ze (Ze (Ze (Ze (by kernel_rfl) Jgy) (by rw [Je0]; kernel_rfl)) (by rw [Jj3]; kernel_rfl)) (by kernel_rfl)) (by kernel_rfl)) (by kernel_rfl)) (by kernel_rfl)
theorem towerMinimal_holds : Go.Proofs.Ytopemhgpdlbkjaa.Rows.TowerMinimalSaid :=
  OpenClaim.holds_of_wide 3 Try.f3 rfl rfl rfl rfl rfl rfl rfl ⟨rfl, rfl, rfl, rfl, rfl⟩ rfl rfl rfl rfl rfl (by kernel_rfl) Try.func3 Y2
    (of_decide_eq_true (by kernel_rfl)) (by unfold Func.isWrapper; first | (rw [if_pos (by decide +kernel)]; kernel_rfl) | (rw [if_neg (by decide +kernel)]; exact ⟨rfl, rfl⟩))
    (fun os started H enc _ => Y1 os started H enc)
end Go.Proofs.Ytopemhgpdlbkjaa
