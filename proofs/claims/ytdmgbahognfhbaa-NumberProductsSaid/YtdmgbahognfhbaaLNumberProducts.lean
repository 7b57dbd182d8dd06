/- The law of prime powers: those of a number have ascending primes and multiply to the number: it answers true for every input. No conditions beyond those of the given statement. -/
import Derived.Test.YtdmgbahognfhbaaG8
import Derived.Test.YtdmgbahognfhbaaRows
import Derived.SizedLaws
namespace Go.Proofs.Ytdmgbahognfhbaa
open Go.ChangeShapes Go.WideShapes Go.ChangeAt Go.RowKit
set_option linter.unusedVariables false
theorem numberProducts_own : ownKnob Try.prog.godebug = none := by kernel_rfl
theorem numberProducts_laid : laidOutB Try.prog = true := by kernel_rfl
set_option maxRecDepth 100000 in
theorem numberProducts_lifted (os : Os) (started : os.Started) (H : Type) (enc : TypeId × Value → H) :
    ReturnsInHanded {} Try.checked os 4 .any (Go.Proofs.Ytdmgbahognfhbaa.Rows.numberProductsSpec.pre6 enc Try.prog Try.f4 Go.Proofs.Ytdmgbahognfhbaa.Rows.numberProductsRow.domain false) (Go.Proofs.Ytdmgbahognfhbaa.Rows.numberProductsSpec.post enc Try.prog Try.f4 false true false false) := by
  refine returnsInHanded_of_change (C := Try.checked) numberProducts_own started (by kernel_rfl) Try.func4
    (ChangeSpec.witness6 (enc := enc) (C := Try.checked) false ⟨#[], #[.int .u32 0], []⟩ 8 (by kernel_rfl) (by kernel_rfl) (by kernel_rfl) (by kernel_rfl)) ?_
  intro W base args ds gs before hval0 hW hcnd _
  have hval : ∀ (j : Nat) t v, Try.f4.params[j]? = some t → args[j]? = some v → Value.okWide Try.prog W .any base t v := hval0
  have hW' := hW
  obtain ⟨p, q, hA0, hV, rfl, hfz, hnd⟩ := hW
  have hA : DataW.TrodAll enc Try.prog W 0 (fun _ => true) true Try.f4.params.toList args.toList ds p := hA0
  rw [Try.params4] at hA hval
  obtain ⟨v0, vs0, d0, ds0, p0, q0, hargs, rfl, rfl, h0, r0⟩ := trodAll_cons hA
  obtain ⟨rfl, rfl, rfl⟩ := trodAll_nil r0
  obtain rfl : args = #[v0] := by cases args; simp_all
  obtain ⟨rfl, rfl⟩ := trodVars_none hV
  obtain ⟨a0, rfl, rfl, rfl, w0⟩ := open_int Try.underlying35 (hval 0 35 v0 rfl rfl) h0
  obtain ⟨n0, hn0, hb0⟩ := u32n_arg w0
  clear hA0 hval0
  refine (NumberProducts_c n0 hn0 hb0).mono fun e W' ⟨v, he, hv, bel'⟩ => ?_
  subst he; subst hv
  have bel := bel_of bel'
  exact ⟨_, rfl, _, _, _, [], _, [], hW', trodAll_mk1 (shut_bool Try.underlying4 _), (trodAll_cons_mk (shut_int Try.underlying35 w0) trodAll_mk0), rfl, bel.frame _, fun h => by cases h⟩
theorem numberProducts_holds : Go.Proofs.Ytdmgbahognfhbaa.Rows.NumberProductsSaid :=
  OpenClaim.holds_of_wide 4 Try.f4 rfl rfl rfl rfl rfl rfl rfl ⟨rfl, rfl, rfl, rfl, rfl⟩ rfl rfl rfl rfl rfl (by kernel_rfl) Try.func4 (by kernel_rfl)
    (of_decide_eq_true (by kernel_rfl)) (by unfold Func.isWrapper; first | (rw [if_pos (by decide +kernel)]; kernel_rfl) | (rw [if_neg (by decide +kernel)]; exact ⟨rfl, rfl⟩))
    (fun os started H enc _ => numberProducts_lifted os started H enc)
end Go.Proofs.Ytdmgbahognfhbaa
