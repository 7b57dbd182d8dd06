/- The law of quadratic residue codes: it answers true for every input. No conditions beyond those of the given statement. -/
import Derived.Test.YtjgpkljepgcekaaClassicResidueG8
import Derived.Test.YtjgpkljepgcekaaRows
namespace Go.Proofs.Ytjgpkljepgcekaa
open Go.ChangeShapes Go.WideShapes Go.ChangeAt Go.RowKit
set_option linter.unusedVariables false
theorem Z3 : ownKnob Try.prog.godebug = none := by kernel_rfl
theorem Jin : laidOutB Try.prog = true := by kernel_rfl
set_option maxRecDepth 100000 in
theorem Zg (os : Os) (started : os.Started) (H : Type) (enc : TypeId × Value -> H) :
    ReturnsInHanded {} Try.checked os 10 .any (Go.Proofs.Ytjgpkljepgcekaa.Rows.classicResidueSpec.pre6 enc Try.prog Try.f10 Go.Proofs.Ytjgpkljepgcekaa.Rows.classicResidueRow.domain false) (Go.Proofs.Ytjgpkljepgcekaa.Rows.classicResidueSpec.post enc Try.prog Try.f10 false true false false) := by
  refine returnsInHanded_of_change (C := Try.checked) Z3 started (by kernel_rfl) Try.func10
    (ChangeSpec.witness6 (enc := enc) (C := Try.checked) false ⟨#[], #[.int .i64 0], []⟩ 8 (by kernel_rfl) (by kernel_rfl) (by kernel_rfl) (by kernel_rfl)) ?_
  intro W base args ds gs before hval0 hW hcnd _
  have hval : ∀ (j : Nat) t v, Try.f10.params[j]? = some t -> args[j]? = some v -> Value.okWide Try.prog W .any base t v := hval0
  have hW' := hW
  obtain ⟨p, q, hA0, hV, rfl, hfz, hnd⟩ := hW
  have hA : DataW.TrodAll enc Try.prog W 0 (fun _ => true) true Try.f10.params.toList args.toList ds p := hA0
  rw [Try.params10] at hA hval
  obtain ⟨v0, vs0, d0, ds0, p0, q0, hargs, rfl, rfl, h0, r0⟩ := trodAll_cons hA
  obtain ⟨rfl, rfl, rfl⟩ := trodAll_nil r0
  obtain rfl : args = #[v0] := by cases args; simp_all
  obtain ⟨rfl, rfl⟩ := trodVars_none hV
  obtain ⟨a0, rfl, rfl, rfl, w0⟩ := open_int Try.underlying3 (hval 0 3 v0 rfl rfl) h0
  have hb0 := Jsv w0
  clear hA0 hval0
  refine (Jhc  (Z1 _ )).mono fun e W' ⟨v, Qr, he, bel', _, _, r, hv, _, hr⟩ => ?_
  subst he; subst hr; subst hv
  have bel := bel_of bel'
  exact ⟨_, rfl, _, _, _, [], _, [], hW', trodAll_mk1 (shut_bool Try.underlying4 _), (trodAll_cons_mk (shut_int Try.underlying3 w0) trodAll_mk0), rfl, bel.frame _, fun h => by cases h⟩
theorem Zh : joinedFacts Try.checked.prog 10 Try.f10 Go.Proofs.Ytjgpkljepgcekaa.Rows.classicResidueSpec Go.Proofs.Ytjgpkljepgcekaa.Rows.classicResidueRow = true := by
  unfold joinedFacts
  exact Z6 (Z6 (Z6 (Z6 (Z6 (Z6 (Z6 (by kernel_rfl) Ji2) (by rw [Jgx]; kernel_rfl)) (by rw [Jml]; kernel_rfl)) (by kernel_rfl)) (by kernel_rfl)) (by kernel_rfl)) (by kernel_rfl)
theorem classicResidue_holds : Go.Proofs.Ytjgpkljepgcekaa.Rows.ClassicResidueSaid :=
  OpenClaim.holds_of_wide 10 Try.f10 rfl rfl rfl rfl rfl rfl rfl ⟨rfl, rfl, rfl, rfl, rfl⟩ rfl rfl rfl rfl rfl (by kernel_rfl) Try.func10 Zh
    (of_decide_eq_true (by kernel_rfl)) (by unfold Func.isWrapper; first | (rw [if_pos (by decide +kernel)]; kernel_rfl) | (rw [if_neg (by decide +kernel)]; exact ⟨rfl, rfl⟩))
    (fun os started H enc _ => Zg os started H enc)
end Go.Proofs.Ytjgpkljepgcekaa
