/- The law of words of a space: membership, reduced words, coordinates, supported subspaces: it answers true for every input. No conditions beyond those of the given statement. -/
import Derived.Test.YtngdhnijkgjhcaaGreatSpaceWordsG11
import Derived.Test.YtngdhnijkgjhcaaGreatRows
namespace Go.Proofs.YtngdhnijkgjhcaaGreat
open Go.ChangeShapes Go.WideShapes Go.ChangeAt Go.RowKit
set_option linter.unusedVariables false
theorem Jhs : ownKnob Tryz.prog.godebug = none := by kernel_rfl
theorem Zg : laidOutB Tryz.prog = true := by kernel_rfl
theorem Jht : Ty2S Tryz.prog 24 3 := ⟨⟨_, _, _, Tryz.underlying24, rfl, rfl, rfl, Tryz.underlying3, Tryz.underlying3, Tryz.underlying22, by kernel_rfl, by kernel_rfl, by kernel_rfl⟩, by kernel_rfl, Tryz.underlying3, by kernel_rfl⟩
theorem Ji8 : TyMt Tryz.prog 27 22 3 := ⟨⟨_, _, Tryz.underlying27, rfl, rfl, Tryz.underlying3, Tryz.underlying25, by kernel_rfl, by kernel_rfl⟩, by kernel_rfl, Tryz.underlying22, Tryz.underlying3, by kernel_rfl, by kernel_rfl⟩
set_option maxRecDepth 100000 in
theorem Jea (os : Os) (started : os.Started) (H : Type) (enc : TypeId × Value -> H) :
    ReturnsInHanded {} Tryz.checked os 5 .any (Go.Proofs.YtngdhnijkgjhcaaGreat.Rows.spaceWordsSpec.pre6 enc Tryz.prog Tryz.f5 Go.Proofs.YtngdhnijkgjhcaaGreat.Rows.spaceWordsRow.domain false) (Go.Proofs.YtngdhnijkgjhcaaGreat.Rows.spaceWordsSpec.post enc Tryz.prog Tryz.f5 false true false false) := by
  refine returnsInHanded_of_change (C := Tryz.checked) Jhs started (by kernel_rfl) Tryz.func5
    (ChangeSpec.witness6 (enc := enc) (C := Tryz.checked) false ⟨#[], #[.agg #[.int .i64 0, .int .i64 0, .slice none 0 0], .agg #[.int .i64 0, .slice none 0 0], .slice none 0 0], []⟩ 8 (by kernel_rfl) (by kernel_rfl) (by kernel_rfl) (by kernel_rfl)) ?_
  intro W base args ds gs before hval0 hW hcnd _
  have hval : ∀ (j : Nat) t v, Tryz.f5.params[j]? = some t -> args[j]? = some v -> Value.okWide Tryz.prog W .any base t v := hval0
  have hW' := hW
  obtain ⟨p, q, hA0, hV, rfl, hfz, hnd⟩ := hW
  have hA : DataW.TrodAll enc Tryz.prog W 0 (fun _ => true) true Tryz.f5.params.toList args.toList ds p := hA0
  rw [Tryz.params5] at hA hval
  obtain ⟨v0, vs0, d0, ds0, p0, q0, hargs, rfl, rfl, h0, r0⟩ := trodAll_cons hA
  obtain ⟨v1, vs1, d1, ds1, p1, q1, rfl, rfl, rfl, h1, r1⟩ := trodAll_cons r0
  obtain ⟨v2, vs2, d2, ds2, p2, q2, rfl, rfl, rfl, h2, r2⟩ := trodAll_cons r1
  obtain ⟨rfl, rfl, rfl⟩ := trodAll_nil r2
  obtain rfl : args = #[v0, v1, v2] := by cases args; simp_all
  obtain ⟨rfl, rfl⟩ := trodVars_none hV
  obtain ⟨cs0, rfl, _⟩ := okWide_struct Tryz.underlying24 (hval 0 24 v0 rfl rfl)
  have k0 := h0
  have lt0 : ∀ x ∈ p0, x.block < W.heap.size := by obtain ⟨m, hm⟩ := k0; exact DataW.trod_lt m _ _ _ hm
  obtain ⟨a0, b0, A0, m0, c0, x0, rfl, R0⟩ := Qd7 Jht h0
  obtain ⟨cs1, rfl, _⟩ := okWide_struct Tryz.underlying27 (hval 1 27 v1 rfl rfl)
  have k1 := h1
  have lt1 : ∀ x ∈ p1, x.block < W.heap.size := by obtain ⟨m, hm⟩ := k1; exact DataW.trod_lt m _ _ _ hm
  obtain ⟨C1, A1, m1, c1, x1, rfl, R1⟩ := Qdw Ji8 h1
  obtain ⟨a2, len2, cap2, rfl⟩ := okWide_slice Tryz.underlying22 (hval 2 22 v2 rfl rfl)
  have k2 := h2
  have lt2 : ∀ x ∈ p2, x.block < W.heap.size := by obtain ⟨m, hm⟩ := k2; exact DataW.trod_lt m _ _ _ hm
  obtain ⟨x2, R2⟩ := Qat Tryz.underlying22 Tryz.underlying3 (by kernel_rfl) h2
  clear hA0 hval0
  refine (Ju9 R0 R1 R2 (Jif _ _ _ _ _ _ )).mono fun e W' ⟨v, Qr, he, bel', _, _, r, hv, _, hr⟩ => ?_
  subst he; subst hr; subst hv
  have bel := bel_of bel'
  exact ⟨_, rfl, _, _, _, [], _, [], hW', trodAll_mk1 (shut_bool Tryz.underlying4 _), (trodAll_cons_mk (Below.trod Zg (by kernel_rfl) (of_decide_eq_true (by kernel_rfl)) k0 bel lt0) (trodAll_cons_mk (Below.trod Zg (by kernel_rfl) (of_decide_eq_true (by kernel_rfl)) k1 bel lt1) (trodAll_cons_mk (Below.trod Zg (by kernel_rfl) (of_decide_eq_true (by kernel_rfl)) k2 bel lt2) trodAll_mk0))), rfl, bel.frame _, fun h => by cases h⟩
theorem Jeb : joinedFacts Tryz.checked.prog 5 Tryz.f5 Go.Proofs.YtngdhnijkgjhcaaGreat.Rows.spaceWordsSpec Go.Proofs.YtngdhnijkgjhcaaGreat.Rows.spaceWordsRow = true := by
  unfold joinedFacts
  exact Jdx (Jdx (Jdx (Jdx (Jdx (Jdx (Jdx (by kernel_rfl) Jph) (by rw [Jmw]; kernel_rfl)) (by rw [Juz]; kernel_rfl)) (by kernel_rfl)) (by kernel_rfl)) (by kernel_rfl)) (by kernel_rfl)
theorem spaceWords_holds : Go.Proofs.YtngdhnijkgjhcaaGreat.Rows.SpaceWordsSaid :=
  OpenClaim.holds_of_wide 5 Tryz.f5 rfl rfl rfl rfl rfl rfl rfl ⟨rfl, rfl, rfl, rfl, rfl⟩ rfl rfl rfl rfl rfl (by kernel_rfl) Tryz.func5 Jeb
    (of_decide_eq_true (by kernel_rfl)) (by unfold Func.isWrapper; first | (rw [if_pos (by decide +kernel)]; kernel_rfl) | (rw [if_neg (by decide +kernel)]; exact ⟨rfl, rfl⟩))
    (fun os started H enc _ => Jea os started H enc)
end Go.Proofs.YtngdhnijkgjhcaaGreat
