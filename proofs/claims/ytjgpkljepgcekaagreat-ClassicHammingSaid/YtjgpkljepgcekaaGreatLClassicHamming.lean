/- The law of Hamming and simplex codes: it answers true for every input. No conditions beyond those of the given statement. -/
import Derived.Test.YtjgpkljepgcekaaGreatClassicHammingG10
import Derived.Test.YtjgpkljepgcekaaGreatRows
namespace Go.Proofs.YtjgpkljepgcekaaGreat
open Go.ChangeShapes Go.WideShapes Go.ChangeAt Go.RowKit
set_option linter.unusedVariables false
theorem Jby : ownKnob Tryz.prog.godebug = none := by kernel_rfl
theorem Jbi : laidOutB Tryz.prog = true := by kernel_rfl
theorem Jbz : Ty2S Tryz.prog 24 3 := ⟨⟨_, _, _, Tryz.underlying24, rfl, rfl, rfl, Tryz.underlying3, Tryz.underlying3, Tryz.underlying22, by kernel_rfl, by kernel_rfl, by kernel_rfl⟩, by kernel_rfl, Tryz.underlying3, by kernel_rfl⟩
set_option maxRecDepth 100000 in
theorem Z7 (os : Os) (started : os.Started) (H : Type) (enc : TypeId × Value -> H) :
    ReturnsInHanded {} Tryz.checked os 4 .any (Go.Proofs.YtjgpkljepgcekaaGreat.Rows.classicHammingSpec.pre6 enc Tryz.prog Tryz.f4 Go.Proofs.YtjgpkljepgcekaaGreat.Rows.classicHammingRow.domain false) (Go.Proofs.YtjgpkljepgcekaaGreat.Rows.classicHammingSpec.post enc Tryz.prog Tryz.f4 false true false false) := by
  refine returnsInHanded_of_change (C := Tryz.checked) Jby started (by kernel_rfl) Tryz.func4
    (ChangeSpec.witness6 (enc := enc) (C := Tryz.checked) false ⟨#[], #[.agg #[.int .i64 0, .int .i64 0, .slice none 0 0], .int .i64 0], []⟩ 8 (by kernel_rfl) (by kernel_rfl) (by kernel_rfl) (by kernel_rfl)) ?_
  intro W base args ds gs before hval0 hW hcnd _
  have hval : ∀ (j : Nat) t v, Tryz.f4.params[j]? = some t -> args[j]? = some v -> Value.okWide Tryz.prog W .any base t v := hval0
  have hW' := hW
  obtain ⟨p, q, hA0, hV, rfl, hfz, hnd⟩ := hW
  have hA : DataW.TrodAll enc Tryz.prog W 0 (fun _ => true) true Tryz.f4.params.toList args.toList ds p := hA0
  rw [Tryz.params4] at hA hval
  obtain ⟨v0, vs0, d0, ds0, p0, q0, hargs, rfl, rfl, h0, r0⟩ := trodAll_cons hA
  obtain ⟨v1, vs1, d1, ds1, p1, q1, rfl, rfl, rfl, h1, r1⟩ := trodAll_cons r0
  obtain ⟨rfl, rfl, rfl⟩ := trodAll_nil r1
  obtain rfl : args = #[v0, v1] := by cases args; simp_all
  obtain ⟨rfl, rfl⟩ := trodVars_none hV
  obtain ⟨cs0, rfl, _⟩ := okWide_struct Tryz.underlying24 (hval 0 24 v0 rfl rfl)
  have k0 := h0
  have lt0 : ∀ x ∈ p0, x.block < W.heap.size := by obtain ⟨m, hm⟩ := k0; exact DataW.trod_lt m _ _ _ hm
  obtain ⟨a0, b0, A0, m0, c0, x0, rfl, R0⟩ := Jzx Jbz h0
  obtain ⟨a1, rfl, rfl, rfl, w1⟩ := open_int Tryz.underlying3 (hval 1 3 v1 rfl rfl) h1
  have hb1 := Jzs w1
  clear hA0 hval0
  refine (Jkj R0 (Jbw _ _ _ _ )).mono fun e W' ⟨v, Qr, he, bel', _, _, r, hv, _, hr⟩ => ?_
  subst he; subst hr; subst hv
  have bel := bel_of bel'
  exact ⟨_, rfl, _, _, _, [], _, [], hW', trodAll_mk1 (shut_bool Tryz.underlying4 _), (trodAll_cons_mk (Below.trod Jbi (by kernel_rfl) (of_decide_eq_true (by kernel_rfl)) k0 bel lt0) (trodAll_cons_mk (shut_int Tryz.underlying3 w1) trodAll_mk0)), rfl, bel.frame _, fun h => by cases h⟩
theorem Z8 : joinedFacts Tryz.checked.prog 4 Tryz.f4 Go.Proofs.YtjgpkljepgcekaaGreat.Rows.classicHammingSpec Go.Proofs.YtjgpkljepgcekaaGreat.Rows.classicHammingRow = true := by
  unfold joinedFacts
  exact Jb1 (Jb1 (Jb1 (Jb1 (Jb1 (Jb1 (Jb1 (by kernel_rfl) Jmc) (by rw [Jjz]; kernel_rfl)) (by rw [Jrb]; kernel_rfl)) (by kernel_rfl)) (by kernel_rfl)) (by kernel_rfl)) (by kernel_rfl)
theorem classicHamming_holds : Go.Proofs.YtjgpkljepgcekaaGreat.Rows.ClassicHammingSaid :=
  OpenClaim.holds_of_wide 4 Tryz.f4 rfl rfl rfl rfl rfl rfl rfl ⟨rfl, rfl, rfl, rfl, rfl⟩ rfl rfl rfl rfl rfl (by kernel_rfl) Tryz.func4 Z8
    (of_decide_eq_true (by kernel_rfl)) (by unfold Func.isWrapper; first | (rw [if_pos (by decide +kernel)]; kernel_rfl) | (rw [if_neg (by decide +kernel)]; exact ⟨rfl, rfl⟩))
    (fun os started H enc _ => Z7 os started H enc)
end Go.Proofs.YtjgpkljepgcekaaGreat
