/- The law of checked descriptions: it answers true for every input. No conditions beyond those of the given statement. -/
import Derived.Test.YtppkigdakobebaaLGrsChecksOwn
import Derived.Test.YtppkigdakobebaaRows
namespace Go.Proofs.Ytppkigdakobebaa
open Go.ChangeShapes Go.WideShapes Go.ChangeAt Go.RowKit
set_option linter.unusedVariables false
theorem Je0 : ownKnob Try.prog.godebug = none := by kernel_rfl
theorem Jea : laidOutB Try.prog = true := by kernel_rfl
theorem Je1 : Ty2S Try.prog 24 3 := ⟨⟨_, _, _, Try.underlying24, rfl, rfl, rfl, Try.underlying3, Try.underlying3, Try.underlying22, by kernel_rfl, by kernel_rfl, by kernel_rfl⟩, by kernel_rfl, Try.underlying3, by kernel_rfl⟩
theorem Jgu : TyGs Try.prog 48 24 22 3 := ⟨⟨_, _, _, _, Try.underlying48, rfl, rfl, rfl, rfl, rfl, rfl, rfl, rfl⟩, by kernel_rfl, by kernel_rfl, by kernel_rfl, by kernel_rfl, Try.underlying22⟩
set_option maxRecDepth 100000 in
theorem Jbw (os : Os) (started : os.Started) (H : Type) (enc : TypeId × Value -> H) :
    ReturnsInHanded {} Try.checked os 8 .any (Go.Proofs.Ytppkigdakobebaa.Rows.grsChecksSpec.pre6 enc Try.prog Try.f8 Go.Proofs.Ytppkigdakobebaa.Rows.grsChecksRow.domain false) (Go.Proofs.Ytppkigdakobebaa.Rows.grsChecksSpec.post enc Try.prog Try.f8 false true false false) := by
  refine returnsInHanded_of_change (C := Try.checked) Je0 started (by kernel_rfl) Try.func8
    (ChangeSpec.witness6 (enc := enc) (C := Try.checked) false ⟨#[], #[.agg #[.int .i64 0, .int .i64 0, .slice none 0 0, .int .i64 0, .slice none 0 0, .slice none 0 0]], []⟩ 8 (by kernel_rfl) (by kernel_rfl) (by kernel_rfl) (by kernel_rfl)) ?_
  intro W base args ds gs before hval0 hW hcnd _
  have hval : ∀ (j : Nat) t v, Try.f8.params[j]? = some t -> args[j]? = some v -> Value.okWide Try.prog W .any base t v := hval0
  have hW' := hW
  obtain ⟨p, q, hA0, hV, rfl, hfz, hnd⟩ := hW
  have hA : DataW.TrodAll enc Try.prog W 0 (fun _ => true) true Try.f8.params.toList args.toList ds p := hA0
  rw [Try.params8] at hA hval
  obtain ⟨v0, vs0, d0, ds0, p0, q0, hargs, rfl, rfl, h0, r0⟩ := trodAll_cons hA
  obtain ⟨rfl, rfl, rfl⟩ := trodAll_nil r0
  obtain rfl : args = #[v0] := by cases args; simp_all
  obtain ⟨rfl, rfl⟩ := trodVars_none hV
  obtain ⟨cs0, rfl, _⟩ := okWide_struct Try.underlying48 (hval 0 48 v0 rfl rfl)
  have k0 := h0
  have lt0 : ∀ x ∈ p0, x.block < W.heap.size := by obtain ⟨m, hm⟩ := k0; exact DataW.trod_lt m _ _ _ hm
  obtain ⟨a0, b0, A0, m0, c0, x0, K0, Aa0, ma0, ca0, xa0, Ab0, mb0, cb0, xb0, rfl, R0, Ra0, Rb0⟩ := ZP Jgu Je1 h0
  clear hA0 hval0
  refine (Jj7 R0 Ra0 Rb0 (Jex _ _ _ _ _ _ )).mono fun e W' ⟨v, Qr, he, bel', _, _, r, hv, _, hr⟩ => ?_
  subst he; subst hr; subst hv
  have bel := Jag bel'
  exact ⟨_, rfl, _, _, _, [], _, [], hW', trodAll_mk1 (shut_bool Try.underlying4 _), (trodAll_cons_mk (Below.trod Jea (by kernel_rfl) (of_decide_eq_true (by kernel_rfl)) k0 bel lt0) trodAll_mk0), rfl, bel.frame _, fun h => by cases h⟩
theorem Jbx : joinedFacts Try.checked.prog 8 Try.f8 Go.Proofs.Ytppkigdakobebaa.Rows.grsChecksSpec Go.Proofs.Ytppkigdakobebaa.Rows.grsChecksRow = true := by
  unfold joinedFacts
  exact JN (JN (JN (JN (JN (JN (JN (by kernel_rfl) QJ) (by rw [Qw]; kernel_rfl)) (by rw [Q0]; kernel_rfl)) (by kernel_rfl)) (by kernel_rfl)) (by kernel_rfl)) (by kernel_rfl)
theorem grsChecks_holds : Go.Proofs.Ytppkigdakobebaa.Rows.GrsChecksSaid :=
  OpenClaim.holds_of_wide 8 Try.f8 rfl rfl rfl rfl rfl rfl rfl ⟨rfl, rfl, rfl, rfl, rfl⟩ rfl rfl rfl rfl rfl (by kernel_rfl) Try.func8 Jbx
    (of_decide_eq_true (by kernel_rfl)) (by unfold Func.isWrapper; first | (rw [if_pos (by decide +kernel)]; kernel_rfl) | (rw [if_neg (by decide +kernel)]; exact ⟨rfl, rfl⟩))
    (fun os started H enc _ => Jbw os started H enc)
end Go.Proofs.Ytppkigdakobebaa
