/- The law of inner products: it answers true for every input. No conditions beyond those of the given statement. -/
import Derived.Test.YtcmfjjbbcfddpaaLWordInnerOwn
import Derived.Test.YtcmfjjbbcfddpaaRows
namespace Go.Proofs.Ytcmfjjbbcfddpaa
open Go.ChangeShapes Go.WideShapes Go.ChangeAt Go.RowKit
set_option linter.unusedVariables false
theorem wordInner_own : ownKnob Try.prog.godebug = none := by kernel_rfl
theorem wordInner_laid : laidOutB Try.prog = true := by kernel_rfl
theorem wordInner_fst : Ty2S Try.prog 24 3 := ⟨⟨_, _, _, Try.underlying24, rfl, rfl, rfl, Try.underlying3, Try.underlying3, Try.underlying22, by kernel_rfl, by kernel_rfl, by kernel_rfl⟩, by kernel_rfl, Try.underlying3, by kernel_rfl⟩
theorem wordInner_li : TyLi Try.prog 41 24 22 3 := ⟨⟨_, _, _, _, Try.underlying41, rfl, rfl, rfl, rfl, rfl, rfl, rfl, rfl⟩, by kernel_rfl, by kernel_rfl, by kernel_rfl, Try.underlying22⟩
theorem wordInner_bytes : Try.prog.bytesOf 3 = 8 := by kernel_rfl
set_option maxRecDepth 100000 in
theorem wordInner_lifted (os : Os) (started : os.Started) (H : Type) (enc : TypeId × Value → H) :
    ReturnsInHanded {} Try.checked os 7 .any (Go.Proofs.Ytcmfjjbbcfddpaa.Rows.wordInnerSpec.pre6 enc Try.prog Try.f7 Go.Proofs.Ytcmfjjbbcfddpaa.Rows.wordInnerRow.domain false) (Go.Proofs.Ytcmfjjbbcfddpaa.Rows.wordInnerSpec.post enc Try.prog Try.f7 false true false false) := by
  refine returnsInHanded_of_change_sized (C := Try.checked) wordInner_own started (by kernel_rfl) Try.func7
    (ChangeSpec.witness6 (enc := enc) (C := Try.checked) false ⟨#[], #[.agg #[.int .i64 0, .int .i64 0, .slice none 0 0, .slice none 0 0, .slice none 0 0, .slice none 0 0]], []⟩ 8 (by kernel_rfl) (by kernel_rfl) (by kernel_rfl) (by kernel_rfl)) ?_
  intro W base args ds gs before hval0 hW hcnd hsz0 _
  have hval : ∀ (j : Nat) t v, Try.f7.params[j]? = some t → args[j]? = some v → Value.okWide Try.prog W .any base t v := hval0
  have hW' := hW
  obtain ⟨p, q, hA0, hV, rfl, hfz, hnd⟩ := hW
  have hA : DataW.TrodAll enc Try.prog W 0 (fun _ => true) true Try.f7.params.toList args.toList ds p := hA0
  have hsz : (DataW.weightsEach Try.prog (Try.f7.params.toList ++ Go.Proofs.Ytcmfjjbbcfddpaa.Rows.wordInnerSpec.plain.varTypes Try.prog) (ds ++ gs)).all (· ≤ reachBytes) = true := hsz0
  rw [Try.params7] at hA hval hsz
  obtain ⟨v0, vs0, d0, ds0, p0, q0, hargs, rfl, rfl, h0, r0⟩ := trodAll_cons hA
  obtain ⟨rfl, rfl, rfl⟩ := trodAll_nil r0
  obtain rfl : args = #[v0] := by cases args; simp_all
  obtain ⟨rfl, rfl⟩ := trodVars_none hV
  obtain ⟨cs0, rfl, _⟩ := okWide_struct Try.underlying41 (hval 0 41 v0 rfl rfl)
  have k0 := h0
  have lt0 : ∀ x ∈ p0, x.block < W.heap.size := by obtain ⟨m, hm⟩ := k0; exact DataW.trod_lt m _ _ _ hm
  obtain ⟨a0, b0, A0, m0, c0, x0, Aa0, ma0, ca0, xa0, Ab0, mb0, cb0, xb0, Ac0, mc0, cc0, xc0, rfl, R0, Ra0, Rb0, Rc0, e0, e1, e2, e3, rfl, D1, D2, D3⟩ := lists_arg wordInner_li wordInner_fst h0
  have zza0 : xa0.length ≤ 17592186044416 := by
    have hl := Ra0.ilen
    have := sized_part hsz (j := 0) wordInner_li wordInner_bytes rfl rfl (.inl rfl) D1
    omega
  have zzb0 : xb0.length ≤ 17592186044416 := by
    have hl := Rb0.ilen
    have := sized_part hsz (j := 0) wordInner_li wordInner_bytes rfl rfl (.inr (.inl rfl)) D2
    omega
  have zzc0 : xc0.length ≤ 17592186044416 := by
    have hl := Rc0.ilen
    have := sized_part hsz (j := 0) wordInner_li wordInner_bytes rfl rfl (.inr (.inr rfl)) D3
    omega
  clear hA0 hval0
  refine (ok_LInner R0 Ra0 Rb0 Rc0 (law_WordInner zza0 zzb0 zzc0)).mono fun e W' ⟨v, Qr, he, bel', _, _, r, hv, _, hr⟩ => ?_
  subst he; subst hr; subst hv
  have bel := bel_of bel'
  exact ⟨_, rfl, _, _, _, [], _, [], hW', trodAll_mk1 (shut_bool Try.underlying4 _), (trodAll_cons_mk (Below.trod wordInner_laid (by kernel_rfl) (of_decide_eq_true (by kernel_rfl)) k0 bel lt0) trodAll_mk0), rfl, bel.frame _, fun h => by cases h⟩
theorem wordInner_joined : joinedFacts Try.checked.prog 7 Try.f7 Go.Proofs.Ytcmfjjbbcfddpaa.Rows.wordInnerSpec Go.Proofs.Ytcmfjjbbcfddpaa.Rows.wordInnerRow = true := by
  unfold joinedFacts
  exact and_mk (and_mk (and_mk (and_mk (and_mk (and_mk (and_mk (by kernel_rfl) seat_enter) (by rw [seat_finals]; kernel_rfl)) (by rw [seat_make]; kernel_rfl)) (by kernel_rfl)) (by kernel_rfl)) (by kernel_rfl)) (by kernel_rfl)
theorem wordInner_holds : Go.Proofs.Ytcmfjjbbcfddpaa.Rows.WordInnerSaid :=
  OpenClaim.holds_of_wide 7 Try.f7 rfl rfl rfl rfl rfl rfl rfl ⟨rfl, rfl, rfl, rfl, rfl⟩ rfl rfl rfl rfl rfl (by kernel_rfl) Try.func7 wordInner_joined
    (of_decide_eq_true (by kernel_rfl)) (by unfold Func.isWrapper; first | (rw [if_pos (by decide +kernel)]; kernel_rfl) | (rw [if_neg (by decide +kernel)]; exact ⟨rfl, rfl⟩))
    (fun os started H enc _ => wordInner_lifted os started H enc)
end Go.Proofs.Ytcmfjjbbcfddpaa
