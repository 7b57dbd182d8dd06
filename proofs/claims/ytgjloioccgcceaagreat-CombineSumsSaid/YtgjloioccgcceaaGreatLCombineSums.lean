/- The law of direct sums and of the words (u, u + v): it answers true for every input. No conditions beyond those of the given statement. -/
import Derived.Test.YtgjloioccgcceaaGreatCombineSumsG9
import Derived.Test.YtgjloioccgcceaaGreatRows
namespace Go.Proofs.YtgjloioccgcceaaGreat
open Go.ChangeShapes Go.WideShapes Go.ChangeAt Go.RowKit
set_option linter.unusedVariables false
theorem Jc5 : ownKnob Tryz.prog.godebug = none := by kernel_rfl
theorem Y0 : laidOutB Tryz.prog = true := by kernel_rfl
theorem Zw : Ty2S Tryz.prog 24 3 := ⟨⟨_, _, _, Tryz.underlying24, rfl, rfl, rfl, Tryz.underlying3, Tryz.underlying3, Tryz.underlying22, by kernel_rfl, by kernel_rfl, by kernel_rfl⟩, by kernel_rfl, Tryz.underlying3, by kernel_rfl⟩
theorem ZI : TyCd Tryz.prog 27 24 25 22 3 := ⟨⟨_, _, _, Tryz.underlying27, rfl, rfl, rfl, rfl, rfl, rfl⟩, by kernel_rfl, by kernel_rfl, by kernel_rfl, Tryz.underlying25, Tryz.underlying22, Tryz.underlying3, by kernel_rfl, by kernel_rfl⟩
set_option maxRecDepth 100000 in
theorem Jap (os : Os) (started : os.Started) (H : Type) (enc : TypeId × Value -> H) :
    ReturnsInHanded {} Tryz.checked os 3 .any (Go.Proofs.YtgjloioccgcceaaGreat.Rows.combineSumsSpec.pre6 enc Tryz.prog Tryz.f3 Go.Proofs.YtgjloioccgcceaaGreat.Rows.combineSumsRow.domain false) (Go.Proofs.YtgjloioccgcceaaGreat.Rows.combineSumsSpec.post enc Tryz.prog Tryz.f3 false true false false) := by
  refine returnsInHanded_of_change (C := Tryz.checked) Jc5 started (by kernel_rfl) Tryz.func3
    (ChangeSpec.witness6 (enc := enc) (C := Tryz.checked) false ⟨#[], #[.agg #[.int .i64 0, .int .i64 0, .slice none 0 0, .int .i64 0, .slice none 0 0], .agg #[.int .i64 0, .int .i64 0, .slice none 0 0, .int .i64 0, .slice none 0 0]], []⟩ 8 (by kernel_rfl) (by kernel_rfl) (by kernel_rfl) (by kernel_rfl)) ?_
  intro W base args ds gs before hval0 hW hcnd _
  have hval : ∀ (j : Nat) t v, Tryz.f3.params[j]? = some t -> args[j]? = some v -> Value.okWide Tryz.prog W .any base t v := hval0
  have hW' := hW
  obtain ⟨p, q, hA0, hV, rfl, hfz, hnd⟩ := hW
  have hA : DataW.TrodAll enc Tryz.prog W 0 (fun _ => true) true Tryz.f3.params.toList args.toList ds p := hA0
  rw [Tryz.params3] at hA hval
  obtain ⟨v0, vs0, d0, ds0, p0, q0, hargs, rfl, rfl, h0, r0⟩ := trodAll_cons hA
  obtain ⟨v1, vs1, d1, ds1, p1, q1, rfl, rfl, rfl, h1, r1⟩ := trodAll_cons r0
  obtain ⟨rfl, rfl, rfl⟩ := trodAll_nil r1
  obtain rfl : args = #[v0, v1] := by cases args; simp_all
  obtain ⟨rfl, rfl⟩ := trodVars_none hV
  obtain ⟨cs0, rfl, _⟩ := okWide_struct Tryz.underlying27 (hval 0 27 v0 rfl rfl)
  have k0 := h0
  have lt0 : ∀ x ∈ p0, x.block < W.heap.size := by obtain ⟨m, hm⟩ := k0; exact DataW.trod_lt m _ _ _ hm
  obtain ⟨a0, b0, A0, m0, c0, x0, N0, Ag0, mg0, cg0, xg0, rfl, R0, Rg0⟩ := Ji8 ZI Zw h0
  obtain ⟨cs1, rfl, _⟩ := okWide_struct Tryz.underlying27 (hval 1 27 v1 rfl rfl)
  have k1 := h1
  have lt1 : ∀ x ∈ p1, x.block < W.heap.size := by obtain ⟨m, hm⟩ := k1; exact DataW.trod_lt m _ _ _ hm
  obtain ⟨a1, b1, A1, m1, c1, x1, N1, Ag1, mg1, cg1, xg1, rfl, R1, Rg1⟩ := Ji8 ZI Zw h1
  clear hA0 hval0
  refine (Jtp R0 Rg0 R1 Rg1 (Jc4 _ _ _ _ _ _ _ _ _ _ )).mono fun e W' ⟨v, Qr, he, bel', _, _, r, hv, _, hr⟩ => ?_
  subst he; subst hr; subst hv
  have bel := bel_of bel'
  exact ⟨_, rfl, _, _, _, [], _, [], hW', trodAll_mk1 (shut_bool Tryz.underlying4 _), (trodAll_cons_mk (Below.trod Y0 (by kernel_rfl) (of_decide_eq_true (by kernel_rfl)) k0 bel lt0) (trodAll_cons_mk (Below.trod Y0 (by kernel_rfl) (of_decide_eq_true (by kernel_rfl)) k1 bel lt1) trodAll_mk0)), rfl, bel.frame _, fun h => by cases h⟩
theorem Jaq : joinedFacts Tryz.checked.prog 3 Tryz.f3 Go.Proofs.YtgjloioccgcceaaGreat.Rows.combineSumsSpec Go.Proofs.YtgjloioccgcceaaGreat.Rows.combineSumsRow = true := by
  unfold joinedFacts
  exact Jat (Jat (Jat (Jat (Jat (Jat (Jat (by kernel_rfl) Jkg) (by rw [Jik]; kernel_rfl)) (by rw [Jn5]; kernel_rfl)) (by kernel_rfl)) (by kernel_rfl)) (by kernel_rfl)) (by kernel_rfl)
theorem combineSums_holds : Go.Proofs.YtgjloioccgcceaaGreat.Rows.CombineSumsSaid :=
  OpenClaim.holds_of_wide 3 Tryz.f3 rfl rfl rfl rfl rfl rfl rfl ⟨rfl, rfl, rfl, rfl, rfl⟩ rfl rfl rfl rfl rfl (by kernel_rfl) Tryz.func3 Jaq
    (of_decide_eq_true (by kernel_rfl)) (by unfold Func.isWrapper; first | (rw [if_pos (by decide +kernel)]; kernel_rfl) | (rw [if_neg (by decide +kernel)]; exact ⟨rfl, rfl⟩))
    (fun os started H enc _ => Jap os started H enc)
end Go.Proofs.YtgjloioccgcceaaGreat
