/- The law of the square-root bound of quadratic residue codes: it answers true for every input. No conditions beyond those of the given statement. -/
import Derived.Test.YtjgpkljepgcekaaClassicRootG9
import Derived.Test.YtjgpkljepgcekaaRows
namespace Go.Proofs.Ytjgpkljepgcekaa
open Go.ChangeShapes Go.WideShapes Go.ChangeAt Go.RowKit
set_option linter.unusedVariables false
theorem Jci : ownKnob Try.prog.godebug = none := by kernel_rfl
theorem Jby : laidOutB Try.prog = true := by kernel_rfl
set_option maxRecDepth 100000 in
theorem Jaf (os : Os) (started : os.Started) (H : Type) (enc : TypeId × Value -> H) :
    ReturnsInHanded {} Try.checked os 11 .any (Go.Proofs.Ytjgpkljepgcekaa.Rows.classicRootSpec.pre6 enc Try.prog Try.f11 Go.Proofs.Ytjgpkljepgcekaa.Rows.classicRootRow.domain false) (Go.Proofs.Ytjgpkljepgcekaa.Rows.classicRootSpec.post enc Try.prog Try.f11 false true false false) := by
  refine returnsInHanded_of_change (C := Try.checked) Jci started (by kernel_rfl) Try.func11
    (ChangeSpec.witness6 (enc := enc) (C := Try.checked) false ⟨#[], #[.int .i64 0, .slice none 0 0], []⟩ 8 (by kernel_rfl) (by kernel_rfl) (by kernel_rfl) (by kernel_rfl)) ?_
  intro W base args ds gs before hval0 hW hcnd _
  have hval : ∀ (j : Nat) t v, Try.f11.params[j]? = some t -> args[j]? = some v -> Value.okWide Try.prog W .any base t v := hval0
  have hW' := hW
  obtain ⟨p, q, hA0, hV, rfl, hfz, hnd⟩ := hW
  have hA : DataW.TrodAll enc Try.prog W 0 (fun _ => true) true Try.f11.params.toList args.toList ds p := hA0
  rw [Try.params11] at hA hval
  obtain ⟨v0, vs0, d0, ds0, p0, q0, hargs, rfl, rfl, h0, r0⟩ := trodAll_cons hA
  obtain ⟨v1, vs1, d1, ds1, p1, q1, rfl, rfl, rfl, h1, r1⟩ := trodAll_cons r0
  obtain ⟨rfl, rfl, rfl⟩ := trodAll_nil r1
  obtain rfl : args = #[v0, v1] := by cases args; simp_all
  obtain ⟨rfl, rfl⟩ := trodVars_none hV
  obtain ⟨a0, rfl, rfl, rfl, w0⟩ := open_int Try.underlying3 (hval 0 3 v0 rfl rfl) h0
  have hb0 := Jtp w0
  obtain ⟨a1, len1, cap1, rfl⟩ := okWide_slice Try.underlying22 (hval 1 22 v1 rfl rfl)
  have k1 := h1
  have lt1 : ∀ x ∈ p1, x.block < W.heap.size := by obtain ⟨m, hm⟩ := k1; exact DataW.trod_lt m _ _ _ hm
  obtain ⟨x1, R1⟩ := Jqo Try.underlying22 Try.underlying3 (by kernel_rfl) h1
  clear hA0 hval0
  refine (Jqf R1 (Jch _ _ )).mono fun e W' ⟨v, Qr, he, bel', _, _, r, hv, _, hr⟩ => ?_
  subst he; subst hr; subst hv
  have bel := bel_of bel'
  exact ⟨_, rfl, _, _, _, [], _, [], hW', trodAll_mk1 (shut_bool Try.underlying4 _), (trodAll_cons_mk (shut_int Try.underlying3 w0) (trodAll_cons_mk (Below.trod Jby (by kernel_rfl) (of_decide_eq_true (by kernel_rfl)) k1 bel lt1) trodAll_mk0)), rfl, bel.frame _, fun h => by cases h⟩
theorem Jag : joinedFacts Try.checked.prog 11 Try.f11 Go.Proofs.Ytjgpkljepgcekaa.Rows.classicRootSpec Go.Proofs.Ytjgpkljepgcekaa.Rows.classicRootRow = true := by
  unfold joinedFacts
  exact Jai (Jai (Jai (Jai (Jai (Jai (Jai (by kernel_rfl) Jjt) (by rw [Jhh]; kernel_rfl)) (by rw [Jnh]; kernel_rfl)) (by kernel_rfl)) (by kernel_rfl)) (by kernel_rfl)) (by kernel_rfl)
theorem classicRoot_holds : Go.Proofs.Ytjgpkljepgcekaa.Rows.ClassicRootSaid :=
  OpenClaim.holds_of_wide 11 Try.f11 rfl rfl rfl rfl rfl rfl rfl ⟨rfl, rfl, rfl, rfl, rfl⟩ rfl rfl rfl rfl rfl (by kernel_rfl) Try.func11 Jag
    (of_decide_eq_true (by kernel_rfl)) (by unfold Func.isWrapper; first | (rw [if_pos (by decide +kernel)]; kernel_rfl) | (rw [if_neg (by decide +kernel)]; exact ⟨rfl, rfl⟩))
    (fun os started H enc _ => Jaf os started H enc)
end Go.Proofs.Ytjgpkljepgcekaa
