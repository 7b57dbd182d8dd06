/- The law of the partition: it answers true for every input. No conditions beyond those of the given statement. -/
import Derived.Test.YtfeeapdpahcanaaLCyclicPartitionOwn
import Derived.Test.YtfeeapdpahcanaaRows
namespace Go.Proofs.Ytfeeapdpahcanaa
open Go.ChangeShapes Go.WideShapes Go.ChangeAt Go.RowKit
set_option linter.unusedVariables false
theorem Qf : ownKnob Try.prog.godebug = none := by kernel_rfl
theorem YS : laidOutB Try.prog = true := by kernel_rfl
set_option maxRecDepth 100000 in
theorem J2 (os : Os) (started : os.Started) (H : Type) (enc : TypeId × Value -> H) :
    ReturnsInHanded {} Try.checked os 4 .any (Go.Proofs.Ytfeeapdpahcanaa.Rows.cyclicPartitionSpec.pre6 enc Try.prog Try.f4 Go.Proofs.Ytfeeapdpahcanaa.Rows.cyclicPartitionRow.domain false) (Go.Proofs.Ytfeeapdpahcanaa.Rows.cyclicPartitionSpec.post enc Try.prog Try.f4 false true false false) := by
  refine returnsInHanded_of_change (C := Try.checked) Qf started (by kernel_rfl) Try.func4
    (ChangeSpec.witness6 (enc := enc) (C := Try.checked) false ⟨#[], #[.int .u8 0, .int .u8 0], []⟩ 8 (by kernel_rfl) (by kernel_rfl) (by kernel_rfl) (by kernel_rfl)) ?_
  intro W base args ds gs before hval0 hW hcnd _
  have hval : ∀ (j : Nat) t v, Try.f4.params[j]? = some t -> args[j]? = some v -> Value.okWide Try.prog W .any base t v := hval0
  have hW' := hW
  obtain ⟨p, q, hA0, hV, rfl, hfz, hnd⟩ := hW
  have hA : DataW.TrodAll enc Try.prog W 0 (fun _ => true) true Try.f4.params.toList args.toList ds p := hA0
  rw [Try.params4] at hA hval
  obtain ⟨v0, vs0, d0, ds0, p0, q0, hargs, rfl, rfl, h0, r0⟩ := trodAll_cons hA
  obtain ⟨v1, vs1, d1, ds1, p1, q1, rfl, rfl, rfl, h1, r1⟩ := trodAll_cons r0
  obtain ⟨rfl, rfl, rfl⟩ := trodAll_nil r1
  obtain rfl : args = #[v0, v1] := by cases args; simp_all
  obtain ⟨rfl, rfl⟩ := trodVars_none hV
  obtain ⟨a0, rfl, rfl, rfl, w0⟩ := open_int Try.underlying5 (hval 0 5 v0 rfl rfl) h0
  have hb0 := Jap w0
  obtain ⟨a1, rfl, rfl, rfl, w1⟩ := open_int Try.underlying5 (hval 1 5 v1 rfl rfl) h1
  have hb1 := Jap w1
  clear hA0 hval0
  refine (Q7 (Qe _ _ hb0.1 hb0.2 hb1.1 hb1.2)).mono fun e W' ⟨v, Qr, he, bel', _, _, r, hv, _, hr⟩ => ?_
  subst he; subst hr; subst hv
  have bel := Jbu bel'
  exact ⟨_, rfl, _, _, _, [], _, [], hW', trodAll_mk1 (shut_bool Try.underlying4 _), (trodAll_cons_mk (shut_int Try.underlying5 w0) (trodAll_cons_mk (shut_int Try.underlying5 w1) trodAll_mk0)), rfl, bel.frame _, fun h => by cases h⟩
theorem J3 : joinedFacts Try.checked.prog 4 Try.f4 Go.Proofs.Ytfeeapdpahcanaa.Rows.cyclicPartitionSpec Go.Proofs.Ytfeeapdpahcanaa.Rows.cyclicPartitionRow = true := by
  unfold joinedFacts
  exact JA (JA (JA (JA (JA (JA (JA (by kernel_rfl) QU) (by rw [QD]; kernel_rfl)) (by rw [Yd]; kernel_rfl)) (by kernel_rfl)) (by kernel_rfl)) (by kernel_rfl)) (by kernel_rfl)
theorem cyclicPartition_holds : Go.Proofs.Ytfeeapdpahcanaa.Rows.CyclicPartitionSaid :=
  OpenClaim.holds_of_wide 4 Try.f4 rfl rfl rfl rfl rfl rfl rfl ⟨rfl, rfl, rfl, rfl, rfl⟩ rfl rfl rfl rfl rfl (by kernel_rfl) Try.func4 J3
    (of_decide_eq_true (by kernel_rfl)) (by unfold Func.isWrapper; first | (rw [if_pos (by decide +kernel)]; kernel_rfl) | (rw [if_neg (by decide +kernel)]; exact ⟨rfl, rfl⟩))
    (fun os started H enc _ => J2 os started H enc)
end Go.Proofs.Ytfeeapdpahcanaa
