/- The law of exponents: powers add their exponents, and a power of a product is the product of the powers: it answers true for every input. No conditions beyond those of the given statement. -/
import Derived.Test.YtelbkammanlkmaaRows
import Derived.Test.YtelbkammanlkmaaArgs
import Derived.SizedLaws
import Derived.Test.YtelbkammanlkmaaW9
namespace Go.Proofs.Ytelbkammanlkmaa
open Go.ChangeShapes Go.WideShapes Go.ChangeAt Go.RowKit
set_option linter.unusedVariables false
theorem natExponents_own : ownKnob Try.prog.godebug = none := by kernel_rfl
theorem natExponents_laid : laidOutB Try.prog = true := by kernel_rfl
theorem natExponents_bytes4 : Try.prog.bytesOf 40 = 4 := by kernel_rfl
set_option maxRecDepth 100000 in
theorem natExponents_lifted (os : Os) (started : os.Started) (H : Type) (enc : TypeId × Value → H) :
    ReturnsInHanded {} Try.checked os 12 .any (Go.Proofs.Ytelbkammanlkmaa.Rows.natExponentsSpec.pre6 enc Try.prog Try.f12 Go.Proofs.Ytelbkammanlkmaa.Rows.natExponentsRow.domain false) (Go.Proofs.Ytelbkammanlkmaa.Rows.natExponentsSpec.post enc Try.prog Try.f12 false true false false) := by
  refine returnsInHanded_of_change_sized (C := Try.checked) natExponents_own started (by kernel_rfl) Try.func12
    (ChangeSpec.witness6 (enc := enc) (C := Try.checked) false ⟨#[], #[.slice none 0 0, .slice none 0 0, .int .u8 0, .int .u8 0], []⟩ 8 (by kernel_rfl) (by kernel_rfl) (by kernel_rfl) (by kernel_rfl)) ?_
  intro W base args ds gs before hval0 hW hcnd hsz0 _
  have hval : ∀ (j : Nat) t v, Try.f12.params[j]? = some t → args[j]? = some v → Value.okWide Try.prog W .any base t v := hval0
  have hW' := hW
  obtain ⟨p, q, hA0, hV, rfl, hfz, hnd⟩ := hW
  have hA : DataW.TrodAll enc Try.prog W 0 (fun _ => true) true Try.f12.params.toList args.toList ds p := hA0
  have hsz : (DataW.weightsEach Try.prog (Try.f12.params.toList ++ Go.Proofs.Ytelbkammanlkmaa.Rows.natExponentsSpec.plain.varTypes Try.prog) (ds ++ gs)).all (· ≤ reachBytes) = true := hsz0
  rw [Try.params12] at hA hval hsz
  obtain ⟨v0, vs0, d0, ds0, p0, q0, hargs, rfl, rfl, h0, r0⟩ := trodAll_cons hA
  obtain ⟨v1, vs1, d1, ds1, p1, q1, rfl, rfl, rfl, h1, r1⟩ := trodAll_cons r0
  obtain ⟨v2, vs2, d2, ds2, p2, q2, rfl, rfl, rfl, h2, r2⟩ := trodAll_cons r1
  obtain ⟨v3, vs3, d3, ds3, p3, q3, rfl, rfl, rfl, h3, r3⟩ := trodAll_cons r2
  obtain ⟨rfl, rfl, rfl⟩ := trodAll_nil r3
  obtain rfl : args = #[v0, v1, v2, v3] := by cases args; simp_all
  obtain ⟨rfl, rfl⟩ := trodVars_none hV
  obtain ⟨a0, len0, cap0, rfl⟩ := okWide_slice Try.underlying23 (hval 0 23 v0 rfl rfl)
  have k0 := h0
  have lt0 : ∀ x ∈ p0, x.block < W.heap.size := by obtain ⟨m, hm⟩ := k0; exact DataW.trod_lt m _ _ _ hm
  obtain ⟨z0, R0, L0, N0⟩ := nat_arg_d Try.underlying23 Try.underlying40 (by kernel_rfl) h0
  have zz0 : len0 * 4 ≤ 140737488351232 := by
    rcases N0 with ⟨_, rfl⟩ | ⟨es, ss, rfl, hl⟩
    · omega
    · have := sized_slice hsz (j := 0) (t := 23) (e := 40) rfl rfl Try.underlying23
      rw [natExponents_bytes4] at this; simp only [reachBytes] at this; omega
  obtain ⟨a1, len1, cap1, rfl⟩ := okWide_slice Try.underlying23 (hval 1 23 v1 rfl rfl)
  have k1 := h1
  have lt1 : ∀ x ∈ p1, x.block < W.heap.size := by obtain ⟨m, hm⟩ := k1; exact DataW.trod_lt m _ _ _ hm
  obtain ⟨z1, R1, L1, N1⟩ := nat_arg_d Try.underlying23 Try.underlying40 (by kernel_rfl) h1
  have zz1 : len1 * 4 ≤ 140737488351232 := by
    rcases N1 with ⟨_, rfl⟩ | ⟨es, ss, rfl, hl⟩
    · omega
    · have := sized_slice hsz (j := 1) (t := 23) (e := 40) rfl rfl Try.underlying23
      rw [natExponents_bytes4] at this; simp only [reachBytes] at this; omega
  obtain ⟨a2, rfl, rfl, rfl, w2⟩ := open_int Try.underlying5 (hval 2 5 v2 rfl rfl) h2
  obtain ⟨n2, hn2, hb2⟩ := u8_arg w2
  obtain ⟨a3, rfl, rfl, rfl, w3⟩ := open_int Try.underlying5 (hval 3 5 v3 rfl rfl) h3
  obtain ⟨n3, hn3, hb3⟩ := u8_arg w3
  clear hA0 hval0
  refine (NatExponents_n R0 R1 L0 L1 n2 hn2 hb2 n3 hn3 hb3 zz0 zz1).mono fun e W' ⟨v, he, hv, bel'⟩ => ?_
  subst he; subst hv
  have bel := bel_of bel'
  exact ⟨_, rfl, _, _, _, [], _, [], hW', trodAll_mk1 (shut_bool Try.underlying4 _), (trodAll_cons_mk (Below.trod natExponents_laid (by kernel_rfl) (of_decide_eq_true (by kernel_rfl)) k0 bel lt0) (trodAll_cons_mk (Below.trod natExponents_laid (by kernel_rfl) (of_decide_eq_true (by kernel_rfl)) k1 bel lt1) (trodAll_cons_mk (shut_int Try.underlying5 w2) (trodAll_cons_mk (shut_int Try.underlying5 w3) trodAll_mk0)))), rfl, bel.frame _, fun h => by cases h⟩
theorem natExponents_holds : Go.Proofs.Ytelbkammanlkmaa.Rows.NatExponentsSaid :=
  OpenClaim.holds_of_wide 12 Try.f12 rfl rfl rfl rfl rfl rfl rfl ⟨rfl, rfl, rfl, rfl, rfl⟩ rfl rfl rfl rfl rfl (by kernel_rfl) Try.func12 (by kernel_rfl)
    (of_decide_eq_true (by kernel_rfl)) (by unfold Func.isWrapper; first | (rw [if_pos (by decide +kernel)]; kernel_rfl) | (rw [if_neg (by decide +kernel)]; exact ⟨rfl, rfl⟩))
    (fun os started H enc _ => natExponents_lifted os started H enc)
end Go.Proofs.Ytelbkammanlkmaa
