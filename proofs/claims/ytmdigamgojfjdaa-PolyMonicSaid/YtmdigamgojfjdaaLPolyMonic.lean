/- The law of monic polynomials: it answers true for every input. No conditions beyond those of the given statement. -/
import Derived.Test.YtmdigamgojfjdaaLPolyMonicOwn
import Derived.Test.YtmdigamgojfjdaaRows
namespace Go.Proofs.Ytmdigamgojfjdaa
open Go.ChangeShapes Go.WideShapes Go.ChangeAt Go.RowKit
set_option linter.unusedVariables false
theorem polyMonic_own : ownKnob Try.prog.godebug = none := by kernel_rfl
theorem polyMonic_laid : laidOutB Try.prog = true := by kernel_rfl
theorem polyMonic_fst : Ty2S Try.prog 24 3 := ⟨⟨_, _, _, Try.underlying24, rfl, rfl, rfl, Try.underlying3, Try.underlying3, Try.underlying22, by kernel_rfl, by kernel_rfl, by kernel_rfl⟩, by kernel_rfl, Try.underlying3, by kernel_rfl⟩
set_option maxRecDepth 100000 in
theorem polyMonic_lifted (os : Os) (started : os.Started) (H : Type) (enc : TypeId × Value → H) :
    ReturnsInHanded {} Try.checked os 7 .any (Go.Proofs.Ytmdigamgojfjdaa.Rows.polyMonicSpec.pre6 enc Try.prog Try.f7 Go.Proofs.Ytmdigamgojfjdaa.Rows.polyMonicRow.domain false) (Go.Proofs.Ytmdigamgojfjdaa.Rows.polyMonicSpec.post enc Try.prog Try.f7 false true false false) := by
  refine returnsInHanded_of_change (C := Try.checked) polyMonic_own started (by kernel_rfl) Try.func7
    (ChangeSpec.witness6 (enc := enc) (C := Try.checked) false ⟨#[], #[.agg #[.int .i64 0, .int .i64 0, .slice none 0 0], .slice none 0 0], []⟩ 8 (by kernel_rfl) (by kernel_rfl) (by kernel_rfl) (by kernel_rfl)) ?_
  intro W base args ds gs before hval0 hW hcnd _
  have hval : ∀ (j : Nat) t v, Try.f7.params[j]? = some t → args[j]? = some v → Value.okWide Try.prog W .any base t v := hval0
  have hW' := hW
  obtain ⟨p, q, hA0, hV, rfl, hfz, hnd⟩ := hW
  have hA : DataW.TrodAll enc Try.prog W 0 (fun _ => true) true Try.f7.params.toList args.toList ds p := hA0
  rw [Try.params7] at hA hval
  obtain ⟨v0, vs0, d0, ds0, p0, q0, hargs, rfl, rfl, h0, r0⟩ := trodAll_cons hA
  obtain ⟨v1, vs1, d1, ds1, p1, q1, rfl, rfl, rfl, h1, r1⟩ := trodAll_cons r0
  obtain ⟨rfl, rfl, rfl⟩ := trodAll_nil r1
  obtain rfl : args = #[v0, v1] := by cases args; simp_all
  obtain ⟨rfl, rfl⟩ := trodVars_none hV
  obtain ⟨cs0, rfl, _⟩ := okWide_struct Try.underlying24 (hval 0 24 v0 rfl rfl)
  have k0 := h0
  have lt0 : ∀ x ∈ p0, x.block < W.heap.size := by obtain ⟨m, hm⟩ := k0; exact DataW.trod_lt m _ _ _ hm
  obtain ⟨a0, b0, A0, m0, c0, x0, rfl, R0⟩ := fst_arg polyMonic_fst h0
  obtain ⟨a1, len1, cap1, rfl⟩ := okWide_slice Try.underlying22 (hval 1 22 v1 rfl rfl)
  have k1 := h1
  have lt1 : ∀ x ∈ p1, x.block < W.heap.size := by obtain ⟨m, hm⟩ := k1; exact DataW.trod_lt m _ _ _ hm
  obtain ⟨x1, R1⟩ := ints_arg Try.underlying22 Try.underlying3 (by kernel_rfl) h1
  clear hA0 hval0
  refine (ok_PolyMonic R0 R1 (law_PolyMonic _ )).mono fun e W' ⟨v, Qr, he, bel', _, _, r, hv, _, hr⟩ => ?_
  subst he; subst hr; subst hv
  have bel := bel_of bel'
  exact ⟨_, rfl, _, _, _, [], _, [], hW', trodAll_mk1 (shut_bool Try.underlying4 _), (trodAll_cons_mk (Below.trod polyMonic_laid (by kernel_rfl) (of_decide_eq_true (by kernel_rfl)) k0 bel lt0) (trodAll_cons_mk (Below.trod polyMonic_laid (by kernel_rfl) (of_decide_eq_true (by kernel_rfl)) k1 bel lt1) trodAll_mk0)), rfl, bel.frame _, fun h => by cases h⟩
theorem polyMonic_joined : joinedFacts Try.checked.prog 7 Try.f7 Go.Proofs.Ytmdigamgojfjdaa.Rows.polyMonicSpec Go.Proofs.Ytmdigamgojfjdaa.Rows.polyMonicRow = true := by
  unfold joinedFacts
  exact and_mk (and_mk (and_mk (and_mk (and_mk (and_mk (and_mk (by kernel_rfl) seat_enter) (by rw [seat_finals]; kernel_rfl)) (by rw [seat_make]; kernel_rfl)) (by kernel_rfl)) (by kernel_rfl)) (by kernel_rfl)) (by kernel_rfl)
theorem polyMonic_holds : Go.Proofs.Ytmdigamgojfjdaa.Rows.PolyMonicSaid :=
  OpenClaim.holds_of_wide 7 Try.f7 rfl rfl rfl rfl rfl rfl rfl ⟨rfl, rfl, rfl, rfl, rfl⟩ rfl rfl rfl rfl rfl (by kernel_rfl) Try.func7 polyMonic_joined
    (of_decide_eq_true (by kernel_rfl)) (by unfold Func.isWrapper; first | (rw [if_pos (by decide +kernel)]; kernel_rfl) | (rw [if_neg (by decide +kernel)]; exact ⟨rfl, rfl⟩))
    (fun os started H enc _ => polyMonic_lifted os started H enc)
end Go.Proofs.Ytmdigamgojfjdaa
