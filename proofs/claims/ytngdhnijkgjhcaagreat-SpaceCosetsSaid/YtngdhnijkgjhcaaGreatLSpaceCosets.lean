/- The law of cosets: reduced words, membership, coordinates: it answers true for every input. No conditions beyond those of the given statement. -/
import Derived.Test.YtngdhnijkgjhcaaGreatSpaceCosetsG12
import Derived.Test.YtngdhnijkgjhcaaGreatRows
namespace Go.Proofs.YtngdhnijkgjhcaaGreat
open Go.ChangeShapes Go.WideShapes Go.ChangeAt Go.RowKit
set_option linter.unusedVariables false
theorem Jff : ownKnob Tryz.prog.godebug = none := by kernel_rfl
theorem YN : laidOutB Tryz.prog = true := by kernel_rfl
theorem Jfg : Ty2S Tryz.prog 24 3 := ⟨⟨_, _, _, Tryz.underlying24, rfl, rfl, rfl, Tryz.underlying3, Tryz.underlying3, Tryz.underlying22, by kernel_rfl, by kernel_rfl, by kernel_rfl⟩, by kernel_rfl, Tryz.underlying3, by kernel_rfl⟩
theorem Jgo : TyMt Tryz.prog 27 22 3 := ⟨⟨_, _, Tryz.underlying27, rfl, rfl, Tryz.underlying3, Tryz.underlying25, by kernel_rfl, by kernel_rfl⟩, by kernel_rfl, Tryz.underlying22, Tryz.underlying3, by kernel_rfl, by kernel_rfl⟩
set_option maxRecDepth 100000 in
theorem Jco (os : Os) (started : os.Started) (H : Type) (enc : TypeId × Value -> H) :
    ReturnsInHanded {} Tryz.checked os 8 .any (Go.Proofs.YtngdhnijkgjhcaaGreat.Rows.spaceCosetsSpec.pre6 enc Tryz.prog Tryz.f8 Go.Proofs.YtngdhnijkgjhcaaGreat.Rows.spaceCosetsRow.domain false) (Go.Proofs.YtngdhnijkgjhcaaGreat.Rows.spaceCosetsSpec.post enc Tryz.prog Tryz.f8 false true false false) := by
  refine returnsInHanded_of_change (C := Tryz.checked) Jff started (by kernel_rfl) Tryz.func8
    (ChangeSpec.witness6 (enc := enc) (C := Tryz.checked) false ⟨#[], #[.agg #[.int .i64 0, .int .i64 0, .slice none 0 0], .agg #[.int .i64 0, .slice none 0 0], .agg #[.slice none 0 0, .slice none 0 0, .slice none 0 0]], []⟩ 8 (by kernel_rfl) (by kernel_rfl) (by kernel_rfl) (by kernel_rfl)) ?_
  intro W base args ds gs before hval0 hW hcnd _
  have hval : ∀ (j : Nat) t v, Tryz.f8.params[j]? = some t -> args[j]? = some v -> Value.okWide Tryz.prog W .any base t v := hval0
  have hW' := hW
  obtain ⟨p, q, hA0, hV, rfl, hfz, hnd⟩ := hW
  have hA : DataW.TrodAll enc Tryz.prog W 0 (fun _ => true) true Tryz.f8.params.toList args.toList ds p := hA0
  rw [Tryz.params8] at hA hval
  obtain ⟨v0, vs0, d0, ds0, p0, q0, hargs, rfl, rfl, h0, r0⟩ := trodAll_cons hA
  obtain ⟨v1, vs1, d1, ds1, p1, q1, rfl, rfl, rfl, h1, r1⟩ := trodAll_cons r0
  obtain ⟨v2, vs2, d2, ds2, p2, q2, rfl, rfl, rfl, h2, r2⟩ := trodAll_cons r1
  obtain ⟨rfl, rfl, rfl⟩ := trodAll_nil r2
  obtain rfl : args = #[v0, v1, v2] := by cases args; simp_all
  obtain ⟨rfl, rfl⟩ := trodVars_none hV
  obtain ⟨cs0, rfl, _⟩ := okWide_struct Tryz.underlying24 (hval 0 24 v0 rfl rfl)
  have k0 := h0
  have lt0 : ∀ x ∈ p0, x.block < W.heap.size := by obtain ⟨m, hm⟩ := k0; exact DataW.trod_lt m _ _ _ hm
  obtain ⟨a0, b0, A0, m0, c0, x0, rfl, R0⟩ := Qbe Jfg h0
  obtain ⟨cs1, rfl, _⟩ := okWide_struct Tryz.underlying27 (hval 1 27 v1 rfl rfl)
  have k1 := h1
  have lt1 : ∀ x ∈ p1, x.block < W.heap.size := by obtain ⟨m, hm⟩ := k1; exact DataW.trod_lt m _ _ _ hm
  obtain ⟨C1, A1, m1, c1, x1, rfl, R1⟩ := Qa4 Jgo h1
  obtain ⟨cs2, rfl, _⟩ := Joa Tryz.underlying46 (hval 2 46 v2 rfl rfl)
  have k2 := h2
  have lt2 : ∀ x ∈ p2, x.block < W.heap.size := by obtain ⟨m, hm⟩ := k2; exact DataW.trod_lt m _ _ _ hm
  obtain ⟨A2, m2, c2, A2', m2', c2', A2z, m2z, c2z, x2, x2', x2z, rfl, R2, R2', R2z⟩ := Jts Tryz.underlying46 Tryz.underlying22 Tryz.underlying3 (by kernel_rfl) (by kernel_rfl) (by kernel_rfl) h2
  clear hA0 hval0
  refine (Jn8 R0 R1 R2 R2' R2z (Jfj _ _ _ _ _ _ _ _ )).mono fun e W' ⟨v, Qr, he, bel', _, _, r, hv, _, hr⟩ => ?_
  subst he; subst hr; subst hv
  have bel := bel_of bel'
  exact ⟨_, rfl, _, _, _, [], _, [], hW', trodAll_mk1 (shut_bool Tryz.underlying4 _), (trodAll_cons_mk (Below.trod YN (by kernel_rfl) (of_decide_eq_true (by kernel_rfl)) k0 bel lt0) (trodAll_cons_mk (Below.trod YN (by kernel_rfl) (of_decide_eq_true (by kernel_rfl)) k1 bel lt1) (trodAll_cons_mk (Below.trod YN (by kernel_rfl) (of_decide_eq_true (by kernel_rfl)) k2 bel lt2) trodAll_mk0))), rfl, bel.frame _, fun h => by cases h⟩
theorem Jcp : joinedFacts Tryz.checked.prog 8 Tryz.f8 Go.Proofs.YtngdhnijkgjhcaaGreat.Rows.spaceCosetsSpec Go.Proofs.YtngdhnijkgjhcaaGreat.Rows.spaceCosetsRow = true := by
  unfold joinedFacts
  exact Jcw (Jcw (Jcw (Jcw (Jcw (Jcw (Jcw (by kernel_rfl) Jnv) (by rw [Jli]; kernel_rfl)) (by rw [Jsq]; kernel_rfl)) (by kernel_rfl)) (by kernel_rfl)) (by kernel_rfl)) (by kernel_rfl)
theorem spaceCosets_holds : Go.Proofs.YtngdhnijkgjhcaaGreat.Rows.SpaceCosetsSaid :=
  OpenClaim.holds_of_wide 8 Tryz.f8 rfl rfl rfl rfl rfl rfl rfl ⟨rfl, rfl, rfl, rfl, rfl⟩ rfl rfl rfl rfl rfl (by kernel_rfl) Tryz.func8 Jcp
    (of_decide_eq_true (by kernel_rfl)) (by unfold Func.isWrapper; first | (rw [if_pos (by decide +kernel)]; kernel_rfl) | (rw [if_neg (by decide +kernel)]; exact ⟨rfl, rfl⟩))
    (fun os started H enc _ => Jco os started H enc)
end Go.Proofs.YtngdhnijkgjhcaaGreat
