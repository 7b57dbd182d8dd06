/- Contracts of functions of the program, and what they lean on: N12. -/
import Derived.Test.YtdmgbahognfhbaaG6
set_option linter.unusedSimpArgs false
set_option linter.unusedVariables false
namespace Go.Proofs.Ytdmgbahognfhbaa
open Go.RowKit
set_option maxHeartbeats 4000000 in
theorem NumberBezout_c {w : World} {X : Int} (hX : -9223372036854775808 ≤ X ∧ X ≤ 9223372036854775807) {Y : Int} (hY : -9223372036854775808 ≤ Y ∧ Y ≤ 9223372036854775807) :
    Calls Try.prog 6 #[.int .i64 X, .int .i64 Y] w fun e w2 => ∃ v, e = .returned v ∧ (fun v w2 => v = .bool true ∧ w.grownBy w2 none) v w2 := by
  obtain ⟨g, x, y, er, hR⟩ := BezR.ex X Y
  have hB := ext_refl w
  refine calls_of_W (vs := [.int .i64 X, .int .i64 Y]) [4] Try.func6 rfl rfl rfl rfl ?_
  refine W.seq ?_
  refine W.region ?_
  refine WL.assign rfl rfl ?_
  refine WL.done ?_
  refine W.seq ?_
  refine W.seq ?_
  refine W.region ?_
  refine WL.call Try.func15 rfl Try.nm15 rfl rfl (awake_c) ?_
  rintro _ w11 ⟨rfl, hGw11⟩
  have hB := ext_trans hB hGw11
  refine WL.not rfl rfl ?_
  refine WL.done ?_
  refine W.condF rfl ?_
  refine W.skip ?_
  refine W.seq ?_
  refine W.region ?_
  refine WL.move rfl rfl ?_
  refine WL.move rfl rfl ?_
  refine WL.call Try.func27 rfl Try.nm27 rfl rfl (Gcd_c (by omega) (by omega)) ?_
  rintro _ w12 ⟨rfl, hGw12⟩
  have hB := ext_trans hB hGw12
  refine WL.move rfl rfl ?_
  refine WL.extract rfl rfl rfl ?_
  refine WL.extract rfl rfl rfl ?_
  refine WL.assign rfl rfl ?_
  refine WL.assign rfl rfl ?_
  refine WL.done ?_
  refine W.seq ?_
  refine W.region ?_
  refine WL.move rfl rfl ?_
  refine WL.move rfl rfl ?_
  refine WL.call Try.func28 rfl Try.nm28 rfl rfl (rGcd_c (by omega) (by omega)) ?_
  rintro _ w13 ⟨rfl, hGw13⟩
  have hB := ext_trans hB hGw13
  refine WL.move rfl rfl ?_
  refine WL.extract rfl rfl rfl ?_
  refine WL.extract rfl rfl rfl ?_
  refine WL.assign rfl rfl ?_
  refine WL.assign rfl rfl ?_
  refine WL.done ?_
  refine W.seq ?_
  refine W.region ?_
  refine WL.move rfl rfl ?_
  refine WL.move rfl rfl ?_
  refine WL.call Try.func29 rfl Try.nm29 rfl rfl (Bezout_c (by omega) (by omega) g x y er hR) ?_
  rintro _ w14 ⟨rfl, hGw14⟩
  have hB := ext_trans hB hGw14
  refine WL.move rfl rfl ?_
  refine WL.extract rfl rfl rfl ?_
  refine WL.extract rfl rfl rfl ?_
  refine WL.extract rfl rfl rfl ?_
  refine WL.extract rfl rfl rfl ?_
  refine WL.assign rfl rfl ?_
  refine WL.assign rfl rfl ?_
  refine WL.assign rfl rfl ?_
  refine WL.assign rfl rfl ?_
  refine WL.done ?_
  refine W.seq ?_
  refine W.region ?_
  refine WL.move rfl rfl ?_
  refine WL.move rfl rfl ?_
  refine WL.call Try.func30 rfl Try.nm30 rfl rfl (rBezout_c (by omega) (by omega) g x y er hR) ?_
  rintro _ w15 ⟨rfl, hGw15⟩
  have hB := ext_trans hB hGw15
  refine WL.move rfl rfl ?_
  refine WL.extract rfl rfl rfl ?_
  refine WL.extract rfl rfl rfl ?_
  refine WL.extract rfl rfl rfl ?_
  refine WL.extract rfl rfl rfl ?_
  refine WL.assign rfl rfl ?_
  refine WL.assign rfl rfl ?_
  refine WL.assign rfl rfl ?_
  refine WL.assign rfl rfl ?_
  refine WL.done ?_
  refine W.seq ?_
  refine W.region ?_
  refine WL.move rfl rfl ?_
  refine WL.move rfl rfl ?_
  refine WL.eql rfl rfl rfl (fun c16 => ?_) (fun c16 => ?_)
  · refine WL.move rfl rfl ?_
    refine WL.take rfl ?_
    refine WL.move rfl rfl ?_
    refine WL.take rfl ?_
    refine WL.move rfl rfl ?_
    refine WL.take rfl ?_
    refine WL.eql rfl rfl rfl (fun c17 => ?_) (fun c17 => ?_)
    · refine WL.pick rfl rfl rfl ?_
      refine WL.move rfl rfl ?_
      refine WL.take rfl ?_
      refine WL.move rfl rfl ?_
      refine WL.take rfl ?_
      refine WL.move rfl rfl ?_
      refine WL.take rfl ?_
      refine WL.eql rfl rfl rfl (fun c18 => ?_) (fun c18 => ?_)
      · refine WL.pick rfl rfl rfl ?_
        refine WL.move rfl rfl ?_
        refine WL.take rfl ?_
        refine WL.move rfl rfl ?_
        refine WL.take rfl ?_
        refine WL.move rfl rfl ?_
        refine WL.take rfl ?_
        refine WL.eql rfl rfl rfl (fun c19 => ?_) (fun c19 => ?_)
        · refine WL.pick rfl rfl rfl ?_
          refine WL.move rfl rfl ?_
          refine WL.take rfl ?_
          refine WL.move rfl rfl ?_
          refine WL.take rfl ?_
          refine WL.move rfl rfl ?_
          refine WL.take rfl ?_
          refine WL.eql rfl rfl rfl (fun c20 => ?_) (fun c20 => ?_)
          · refine WL.pick rfl rfl rfl ?_
            refine WL.move rfl rfl ?_
            refine WL.take rfl ?_
            refine WL.move rfl rfl ?_
            refine WL.take rfl ?_
            refine WL.move rfl rfl ?_
            refine WL.take rfl ?_
            refine WL.eql rfl rfl rfl (fun c21 => ?_) (fun c21 => ?_)
            · refine WL.pick rfl rfl rfl ?_
              refine WL.assign rfl rfl ?_
              refine WL.done ?_
              refine W.ret ?_
              refine ⟨_, rfl, ?_⟩
              exact ⟨rfl, hB⟩
            · exfalso
              exact c21 rfl
          · exfalso
            exact c20 rfl
        · exfalso
          exact c19 rfl
      · exfalso
        exact c18 rfl
    · exfalso
      exact c17 rfl
  · exfalso
    exact c16 rfl

set_option maxHeartbeats 4000000 in
theorem NumberGcd_c {w : World} {X : Int} (hX : -2147483648 ≤ X ∧ X ≤ 2147483647) {Y : Int} (hY : -2147483648 ≤ Y ∧ Y ≤ 2147483647) {Z : Int} (hZ : -9223372036854775808 ≤ Z ∧ Z ≤ 9223372036854775807) :
    Calls Try.prog 7 #[.int .i32 X, .int .i32 Y, .int .i64 Z] w fun e w2 => ∃ v, e = .returned v ∧ (fun v w2 => v = .bool true ∧ w.grownBy w2 none) v w2 := by
  obtain ⟨g, x, y, er, hR⟩ := BezR.ex X Y
  have hB := ext_refl w
  refine calls_of_W (vs := [.int .i32 X, .int .i32 Y, .int .i64 Z]) [6] Try.func7 rfl rfl rfl rfl ?_
  refine W.seq ?_
  refine W.region ?_
  refine WL.assign rfl rfl ?_
  refine WL.done ?_
  refine W.seq ?_
  refine W.seq ?_
  refine W.region ?_
  refine WL.call Try.func15 rfl Try.nm15 rfl rfl (awake_c) ?_
  rintro _ w11 ⟨rfl, hGw11⟩
  have hB := ext_trans hB hGw11
  refine WL.not rfl rfl ?_
  refine WL.done ?_
  refine W.condF rfl ?_
  refine W.skip ?_
  refine W.seq ?_
  refine W.region ?_
  refine WL.move rfl rfl ?_
  refine WL.conv (r := X) Try.underlying21 Try.underlying3 rfl (wi64 (by omega) (by omega) (by omega)) rfl ?_
  refine WL.move rfl rfl ?_
  refine WL.conv (r := Y) Try.underlying21 Try.underlying3 rfl (wi64 (by omega) (by omega) (by omega)) rfl ?_
  refine WL.assign rfl rfl ?_
  refine WL.assign rfl rfl ?_
  refine WL.done ?_
  refine W.seq ?_
  refine W.seq ?_
  refine W.region ?_
  refine WL.move rfl rfl ?_
  refine WL.lss rfl rfl rfl (fun c12 => ?_) (fun c12 => ?_)
  · refine WL.move rfl rfl ?_
    refine WL.pass rfl rfl rfl ?_
    refine WL.pass rfl rfl rfl ?_
    refine WL.pick rfl rfl rfl ?_
    refine WL.done ?_
    refine W.condT rfl ?_
    refine W.seq ?_
    refine W.region ?_
    refine WL.assign rfl rfl ?_
    refine WL.done ?_
    refine W.ret ?_
    refine ⟨_, rfl, ?_⟩
    exact ⟨rfl, hB⟩
  · refine WL.move rfl rfl ?_
    refine WL.take rfl ?_
    refine WL.move rfl rfl ?_
    refine WL.take rfl ?_
    refine WL.lss rfl rfl rfl (fun c13 => ?_) (fun c13 => ?_)
    · refine WL.pick rfl rfl rfl ?_
      refine WL.done ?_
      refine W.condT rfl ?_
      refine W.seq ?_
      refine W.region ?_
      refine WL.assign rfl rfl ?_
      refine WL.done ?_
      refine W.ret ?_
      refine ⟨_, rfl, ?_⟩
      exact ⟨rfl, hB⟩
    · refine WL.pick rfl rfl rfl ?_
      refine WL.done ?_
      refine W.condF rfl ?_
      refine W.skip ?_
      refine W.seq ?_
      refine W.region ?_
      refine WL.move rfl rfl ?_
      refine WL.move rfl rfl ?_
      obtain ⟨her, hgg, hxr, hyr, hsum, hp1, hp2⟩ := bezR_fin (X := X) (Y := Y) (by omega) (by omega) hR
      have hgs := gcdS_ok (a := X) (b := Y) ⟨by omega, by omega⟩
      obtain ⟨ht1, ht2⟩ := tmod_gcd hgg
      refine WL.call Try.func29 rfl Try.nm29 rfl rfl (Bezout_c (by omega) (by omega) g x y er hR) ?_
      rintro _ w14 ⟨rfl, hGw14⟩
      have hB := ext_trans hB hGw14
      refine WL.move rfl rfl ?_
      refine WL.extract rfl rfl rfl ?_
      refine WL.extract rfl rfl rfl ?_
      refine WL.extract rfl rfl rfl ?_
      refine WL.extract rfl rfl rfl ?_
      refine WL.assign rfl rfl ?_
      refine WL.assign rfl rfl ?_
      refine WL.assign rfl rfl ?_
      refine WL.assign rfl rfl ?_
      refine WL.done ?_
      refine W.seq ?_
      refine W.region ?_
      refine WL.move rfl rfl ?_
      refine WL.move rfl rfl ?_
      refine WL.call Try.func27 rfl Try.nm27 rfl rfl (Gcd_c (by omega) (by omega)) ?_
      rintro _ w15 ⟨rfl, hGw15⟩
      have hB := ext_trans hB hGw15
      rw [show (gcdS X Y).1 = g by rw [hgs, hgg], show (gcdS X Y).2 = 0 by rw [hgs]]
      refine WL.move rfl rfl ?_
      refine WL.extract rfl rfl rfl ?_
      refine WL.extract rfl rfl rfl ?_
      refine WL.assign rfl rfl ?_
      refine WL.assign rfl rfl ?_
      refine WL.done ?_
      refine W.seq ?_
      refine W.seq ?_
      refine W.region ?_
      refine WL.move rfl rfl ?_
      refine WL.neq rfl rfl rfl (fun c16 => ?_) (fun c16 => ?_)
      · exfalso
        omega
      · refine WL.move rfl rfl ?_
        refine WL.take rfl ?_
        refine WL.move rfl rfl ?_
        refine WL.take rfl ?_
        refine WL.neq rfl rfl rfl (fun c17 => ?_) (fun c17 => ?_)
        · exfalso
          omega
        · refine WL.pick rfl rfl rfl ?_
          refine WL.move rfl rfl ?_
          refine WL.take rfl ?_
          refine WL.move rfl rfl ?_
          refine WL.take rfl ?_
          refine WL.move rfl rfl ?_
          refine WL.take rfl ?_
          refine WL.neq rfl rfl rfl (fun c18 => ?_) (fun c18 => ?_)
          · exfalso
            exact c18 rfl
          · refine WL.pick rfl rfl rfl ?_
            refine WL.move rfl rfl ?_
            refine WL.take rfl ?_
            refine WL.move rfl rfl ?_
            refine WL.take rfl ?_
            refine WL.lss rfl rfl rfl (fun c19 => ?_) (fun c19 => ?_)
            · exfalso
              omega
            · refine WL.pick rfl rfl rfl ?_
              refine WL.move rfl rfl ?_
              refine WL.take rfl ?_
              refine WL.move rfl rfl ?_
              refine WL.take rfl ?_
              refine WL.lss rfl rfl rfl (fun c20 => ?_) (fun c20 => ?_)
              · exfalso
                omega
              · refine WL.pick rfl rfl rfl ?_
                refine WL.move rfl rfl ?_
                refine WL.take rfl ?_
                refine WL.move rfl rfl ?_
                refine WL.take rfl ?_
                refine WL.gtr rfl rfl rfl (fun c21 => ?_) (fun c21 => ?_)
                · exfalso
                  omega
                · refine WL.pick rfl rfl rfl ?_
                  refine WL.move rfl rfl ?_
                  refine WL.take rfl ?_
                  refine WL.move rfl rfl ?_
                  refine WL.take rfl ?_
                  refine WL.lss rfl rfl rfl (fun c22 => ?_) (fun c22 => ?_)
                  · exfalso
                    omega
                  · refine WL.pick rfl rfl rfl ?_
                    refine WL.move rfl rfl ?_
                    refine WL.take rfl ?_
                    refine WL.move rfl rfl ?_
                    refine WL.take rfl ?_
                    refine WL.gtr rfl rfl rfl (fun c23 => ?_) (fun c23 => ?_)
                    · exfalso
                      omega
                    · refine WL.pick rfl rfl rfl ?_
                      refine WL.move rfl rfl ?_
                      refine WL.take rfl ?_
                      refine WL.move rfl rfl ?_
                      refine WL.take rfl ?_
                      refine WL.move rfl rfl ?_
                      refine WL.take rfl ?_
                      refine WL.mul (r := (X * x)) rfl rfl (wi64 (by omega) (by omega) (by omega)) rfl ?_
                      refine WL.take rfl ?_
                      refine WL.move rfl rfl ?_
                      refine WL.take rfl ?_
                      refine WL.move rfl rfl ?_
                      refine WL.take rfl ?_
                      refine WL.mul (r := (Y * y)) rfl rfl (wi64 (by omega) (by omega) (by omega)) rfl ?_
                      refine WL.take rfl ?_
                      refine WL.add (r := ((g : Nat) : Int)) rfl rfl (wi64 (by omega) (by omega) hsum) rfl ?_
                      refine WL.take rfl ?_
                      refine WL.move rfl rfl ?_
                      refine WL.take rfl ?_
                      refine WL.neq rfl rfl rfl (fun c24 => ?_) (fun c24 => ?_)
                      · exfalso
                        exact c24 rfl
                      · refine WL.pick rfl rfl rfl ?_
                        refine WL.done ?_
                        refine W.condF rfl ?_
                        refine W.skip ?_
                        refine W.seq ?_
                        refine W.seq ?_
                        refine W.region ?_
                        refine WL.move rfl rfl ?_
                        refine WL.eql rfl rfl rfl (fun c25 => ?_) (fun c25 => ?_)
                        · refine WL.done ?_
                          refine W.condT rfl ?_
                          refine W.seq ?_
                          refine W.region ?_
                          refine WL.move rfl rfl ?_
                          refine WL.eql rfl rfl rfl (fun c26 => ?_) (fun c26 => ?_)
                          · refine WL.move rfl rfl ?_
                            refine WL.take rfl ?_
                            refine WL.move rfl rfl ?_
                            refine WL.take rfl ?_
                            refine WL.eql rfl rfl rfl (fun c27 => ?_) (fun c27 => ?_)
                            · refine WL.pick rfl rfl rfl ?_
                              refine WL.assign rfl rfl ?_
                              refine WL.done ?_
                              refine W.ret ?_
                              refine ⟨_, rfl, ?_⟩
                              exact ⟨rfl, hB⟩
                            · exfalso
                              have h9 := Nat.gcd_eq_zero_iff.1 (show Nat.gcd X.natAbs Y.natAbs = 0 by omega)
                              omega
                          · exfalso
                            have h9 := Nat.gcd_eq_zero_iff.1 (show Nat.gcd X.natAbs Y.natAbs = 0 by omega)
                            omega
                        · refine WL.done ?_
                          refine W.condF rfl ?_
                          refine W.skip ?_
                          refine W.seq ?_
                          refine W.region ?_
                          refine WL.move rfl rfl ?_
                          refine WL.move rfl rfl ?_
                          refine WL.rem (r := (0 : Int)) rfl rfl (by omega) ht1 rfl ?_
                          refine WL.eql rfl rfl rfl (fun c28 => ?_) (fun c28 => ?_)
                          · refine WL.move rfl rfl ?_
                            refine WL.take rfl ?_
                            refine WL.move rfl rfl ?_
                            refine WL.take rfl ?_
                            refine WL.move rfl rfl ?_
                            refine WL.take rfl ?_
                            refine WL.rem (r := (0 : Int)) rfl rfl (by omega) ht2 rfl ?_
                            refine WL.take rfl ?_
                            refine WL.eql rfl rfl rfl (fun c29 => ?_) (fun c29 => ?_)
                            · refine WL.pick rfl rfl rfl ?_
                              refine WL.move rfl rfl ?_
                              refine WL.take rfl ?_
                              refine WL.move rfl rfl ?_
                              refine WL.take rfl ?_
                              refine WL.eql rfl rfl rfl (fun c30 => ?_) (fun c30 => ?_)
                              · refine WL.take rfl ?_
                                refine WL.move rfl rfl ?_
                                refine WL.pass rfl rfl rfl ?_
                                refine WL.pass rfl rfl rfl ?_
                                refine WL.pass rfl rfl rfl ?_
                                refine WL.pass rfl rfl rfl ?_
                                refine WL.take rfl ?_
                                refine WL.pick rfl rfl rfl ?_
                                refine WL.take rfl ?_
                                refine WL.move rfl rfl ?_
                                refine WL.pass rfl rfl rfl ?_
                                refine WL.pass rfl rfl rfl ?_
                                refine WL.pass rfl rfl rfl ?_
                                refine WL.pass rfl rfl rfl ?_
                                refine WL.take rfl ?_
                                refine WL.pick rfl rfl rfl ?_
                                refine WL.take rfl ?_
                                refine WL.move rfl rfl ?_
                                refine WL.pass rfl rfl rfl ?_
                                refine WL.pass rfl rfl rfl ?_
                                refine WL.pass rfl rfl rfl ?_
                                refine WL.pass rfl rfl rfl ?_
                                refine WL.take rfl ?_
                                refine WL.pick rfl rfl rfl ?_
                                refine WL.pick rfl rfl rfl ?_
                                refine WL.assign rfl rfl ?_
                                refine WL.done ?_
                                refine W.ret ?_
                                refine ⟨_, rfl, ?_⟩
                                exact ⟨rfl, hB⟩
                              · refine WL.take rfl ?_
                                refine WL.move rfl rfl ?_
                                refine WL.take rfl ?_
                                refine WL.move rfl rfl ?_
                                refine WL.take rfl ?_
                                refine WL.move rfl rfl ?_
                                refine WL.take rfl ?_
                                refine WL.rem (r := (X.tmod Z)) rfl rfl (by omega) rfl rfl ?_
                                refine WL.take rfl ?_
                                refine WL.neq rfl rfl rfl (fun c31 => ?_) (fun c31 => ?_)
                                · refine WL.take rfl ?_
                                  refine WL.pick rfl rfl rfl ?_
                                  refine WL.take rfl ?_
                                  refine WL.move rfl rfl ?_
                                  refine WL.pass rfl rfl rfl ?_
                                  refine WL.pass rfl rfl rfl ?_
                                  refine WL.pass rfl rfl rfl ?_
                                  refine WL.pass rfl rfl rfl ?_
                                  refine WL.take rfl ?_
                                  refine WL.pick rfl rfl rfl ?_
                                  refine WL.take rfl ?_
                                  refine WL.move rfl rfl ?_
                                  refine WL.pass rfl rfl rfl ?_
                                  refine WL.pass rfl rfl rfl ?_
                                  refine WL.pass rfl rfl rfl ?_
                                  refine WL.pass rfl rfl rfl ?_
                                  refine WL.take rfl ?_
                                  refine WL.pick rfl rfl rfl ?_
                                  refine WL.pick rfl rfl rfl ?_
                                  refine WL.assign rfl rfl ?_
                                  refine WL.done ?_
                                  refine W.ret ?_
                                  refine ⟨_, rfl, ?_⟩
                                  exact ⟨rfl, hB⟩
                                · refine WL.take rfl ?_
                                  refine WL.pick rfl rfl rfl ?_
                                  refine WL.take rfl ?_
                                  refine WL.move rfl rfl ?_
                                  refine WL.take rfl ?_
                                  refine WL.move rfl rfl ?_
                                  refine WL.take rfl ?_
                                  refine WL.move rfl rfl ?_
                                  refine WL.take rfl ?_
                                  refine WL.rem (r := (Y.tmod Z)) rfl rfl (by omega) rfl rfl ?_
                                  refine WL.take rfl ?_
                                  refine WL.neq rfl rfl rfl (fun c32 => ?_) (fun c32 => ?_)
                                  · refine WL.take rfl ?_
                                    refine WL.pick rfl rfl rfl ?_
                                    refine WL.take rfl ?_
                                    refine WL.move rfl rfl ?_
                                    refine WL.pass rfl rfl rfl ?_
                                    refine WL.pass rfl rfl rfl ?_
                                    refine WL.pass rfl rfl rfl ?_
                                    refine WL.pass rfl rfl rfl ?_
                                    refine WL.take rfl ?_
                                    refine WL.pick rfl rfl rfl ?_
                                    refine WL.pick rfl rfl rfl ?_
                                    refine WL.assign rfl rfl ?_
                                    refine WL.done ?_
                                    refine W.ret ?_
                                    refine ⟨_, rfl, ?_⟩
                                    exact ⟨rfl, hB⟩
                                  · refine WL.take rfl ?_
                                    refine WL.pick rfl rfl rfl ?_
                                    refine WL.take rfl ?_
                                    refine WL.move rfl rfl ?_
                                    refine WL.take rfl ?_
                                    refine WL.move rfl rfl ?_
                                    refine WL.take rfl ?_
                                    refine WL.move rfl rfl ?_
                                    refine WL.take rfl ?_
                                    refine WL.rem (r := (0 : Int)) rfl rfl (by omega) (gcd_tmod hgg (by omega) (by omega)) rfl ?_
                                    refine WL.take rfl ?_
                                    refine WL.eql rfl rfl rfl (fun c33 => ?_) (fun c33 => ?_)
                                    · refine WL.take rfl ?_
                                      refine WL.pick rfl rfl rfl ?_
                                      refine WL.pick rfl rfl rfl ?_
                                      refine WL.assign rfl rfl ?_
                                      refine WL.done ?_
                                      refine W.ret ?_
                                      refine ⟨_, rfl, ?_⟩
                                      exact ⟨rfl, hB⟩
                                    · exfalso
                                      omega
                            · exfalso
                              omega
                          · exfalso
                            omega

set_option maxHeartbeats 4000000 in
theorem NumberChecked_c {w : World} {X : Int} (hX : -9223372036854775808 ≤ X ∧ X ≤ 9223372036854775807) {Y : Int} (hY : -9223372036854775808 ≤ Y ∧ Y ≤ 9223372036854775807) {Z : Int} (hZ : -9223372036854775808 ≤ Z ∧ Z ≤ 9223372036854775807) :
    Calls Try.prog 13 #[.int .i64 X, .int .i64 Y, .int .i64 Z] w fun e w2 => ∃ v, e = .returned v ∧ (fun v w2 => v = .bool true ∧ w.grownBy w2 none) v w2 := by
  have hB := ext_refl w
  refine calls_of_W (vs := [.int .i64 X, .int .i64 Y, .int .i64 Z]) [6] Try.func13 rfl rfl rfl rfl ?_
  refine W.seq ?_
  refine W.region ?_
  refine WL.assign rfl rfl ?_
  refine WL.done ?_
  refine W.seq ?_
  refine W.seq ?_
  refine W.region ?_
  refine WL.call Try.func15 rfl Try.nm15 rfl rfl (awake_c) ?_
  rintro _ w11 ⟨rfl, hGw11⟩
  have hB := ext_trans hB hGw11
  refine WL.not rfl rfl ?_
  refine WL.done ?_
  refine W.condF rfl ?_
  refine W.skip ?_
  refine W.seq ?_
  refine W.region ?_
  refine WL.move rfl rfl ?_
  refine WL.move rfl rfl ?_
  refine WL.move rfl rfl ?_
  refine WL.move rfl rfl ?_
  refine WL.lit1 (b := w11.heap.size) Try.underlying29 Try.el3 rfl rfl rfl rfl (by intro v hv; simp only [List.mem_cons, List.not_mem_nil, or_false] at hv; rcases hv with rfl | rfl | rfl <;> rfl) (Nat.le_refl _) rfl ?_
  rintro A12 w13 - hO14 hGw13
  have hO14 := hO14.low (b' := w.heap.size) hB.size
  have hB := ext_trans hB hGw13
  change Own _ _ _ _ _ _ _ (is ([X, Y, X] : List Int)) at hO14
  refine WL.call Try.func42 rfl Try.nm42 rfl rfl (Product_c hO14.rd (by omega) (by intro x hx; simp only [List.mem_cons, List.not_mem_nil, or_false] at hx; omega)) ?_
  rintro _ w15 ⟨rfl, hGw15⟩
  have hB := ext_trans hB hGw15
  refine WL.move rfl rfl ?_
  refine WL.extract rfl rfl rfl ?_
  refine WL.extract rfl rfl rfl ?_
  refine WL.assign rfl rfl ?_
  refine WL.assign rfl rfl ?_
  refine WL.done ?_
  refine W.seq ?_
  refine W.region ?_
  refine WL.move rfl rfl ?_
  refine WL.move rfl rfl ?_
  refine WL.move rfl rfl ?_
  refine WL.move rfl rfl ?_
  refine WL.lit1 (b := w15.heap.size) Try.underlying29 Try.el3 rfl rfl rfl rfl (by intro v hv; simp only [List.mem_cons, List.not_mem_nil, or_false] at hv; rcases hv with rfl | rfl | rfl <;> rfl) (Nat.le_refl _) rfl ?_
  rintro A16 w17 - hO18 hGw17
  have hO18 := hO18.low (b' := w.heap.size) hB.size
  have hB := ext_trans hB hGw17
  change Own _ _ _ _ _ _ _ (is ([X, Y, X] : List Int)) at hO18
  refine WL.call Try.func43 rfl Try.nm43 rfl rfl (rProduct_c hO18.rd (by omega) (by intro x hx; simp only [List.mem_cons, List.not_mem_nil, or_false] at hx; omega)) ?_
  rintro _ w19 ⟨rfl, hGw19⟩
  have hB := ext_trans hB hGw19
  refine WL.move rfl rfl ?_
  refine WL.extract rfl rfl rfl ?_
  refine WL.extract rfl rfl rfl ?_
  refine WL.assign rfl rfl ?_
  refine WL.assign rfl rfl ?_
  refine WL.done ?_
  refine W.seq ?_
  refine W.region ?_
  refine WL.move rfl rfl ?_
  refine WL.move rfl rfl ?_
  refine WL.move rfl rfl ?_
  refine WL.call Try.func44 rfl Try.nm44 rfl rfl (Exp_c (by omega) (by omega) (by omega)) ?_
  rintro _ w20 ⟨rfl, hGw20⟩
  have hB := ext_trans hB hGw20
  refine WL.move rfl rfl ?_
  refine WL.extract rfl rfl rfl ?_
  refine WL.extract rfl rfl rfl ?_
  refine WL.assign rfl rfl ?_
  refine WL.assign rfl rfl ?_
  refine WL.done ?_
  refine W.seq ?_
  refine W.region ?_
  refine WL.move rfl rfl ?_
  refine WL.move rfl rfl ?_
  refine WL.move rfl rfl ?_
  refine WL.call Try.func45 rfl Try.nm45 rfl rfl (rExp_c (by omega) (by omega) (by omega)) ?_
  rintro _ w21 ⟨rfl, hGw21⟩
  have hB := ext_trans hB hGw21
  refine WL.move rfl rfl ?_
  refine WL.extract rfl rfl rfl ?_
  refine WL.extract rfl rfl rfl ?_
  refine WL.assign rfl rfl ?_
  refine WL.assign rfl rfl ?_
  refine WL.done ?_
  refine W.seq ?_
  refine W.region ?_
  refine WL.move rfl rfl ?_
  refine WL.move rfl rfl ?_
  refine WL.move rfl rfl ?_
  refine WL.call Try.func46 rfl Try.nm46 rfl rfl (Choose_c (by omega) (by omega) (by omega)) ?_
  rintro _ w22 ⟨rfl, hGw22⟩
  have hB := ext_trans hB hGw22
  refine WL.move rfl rfl ?_
  refine WL.extract rfl rfl rfl ?_
  refine WL.extract rfl rfl rfl ?_
  refine WL.assign rfl rfl ?_
  refine WL.assign rfl rfl ?_
  refine WL.done ?_
  refine W.seq ?_
  refine W.region ?_
  refine WL.move rfl rfl ?_
  refine WL.move rfl rfl ?_
  refine WL.move rfl rfl ?_
  refine WL.call Try.func47 rfl Try.nm47 rfl rfl (rChoose_c (by omega) (by omega) (by omega)) ?_
  rintro _ w23 ⟨rfl, hGw23⟩
  have hB := ext_trans hB hGw23
  refine WL.move rfl rfl ?_
  refine WL.extract rfl rfl rfl ?_
  refine WL.extract rfl rfl rfl ?_
  refine WL.assign rfl rfl ?_
  refine WL.assign rfl rfl ?_
  refine WL.done ?_
  refine W.seq ?_
  refine W.region ?_
  refine WL.move rfl rfl ?_
  refine WL.move rfl rfl ?_
  refine WL.eql rfl rfl rfl (fun c24 => ?_) (fun c24 => ?_)
  · refine WL.move rfl rfl ?_
    refine WL.take rfl ?_
    refine WL.move rfl rfl ?_
    refine WL.take rfl ?_
    refine WL.move rfl rfl ?_
    refine WL.take rfl ?_
    refine WL.eql rfl rfl rfl (fun c25 => ?_) (fun c25 => ?_)
    · refine WL.pick rfl rfl rfl ?_
      refine WL.move rfl rfl ?_
      refine WL.take rfl ?_
      refine WL.move rfl rfl ?_
      refine WL.take rfl ?_
      refine WL.move rfl rfl ?_
      refine WL.take rfl ?_
      refine WL.eql rfl rfl rfl (fun c26 => ?_) (fun c26 => ?_)
      · refine WL.pick rfl rfl rfl ?_
        refine WL.move rfl rfl ?_
        refine WL.take rfl ?_
        refine WL.move rfl rfl ?_
        refine WL.take rfl ?_
        refine WL.move rfl rfl ?_
        refine WL.take rfl ?_
        refine WL.eql rfl rfl rfl (fun c27 => ?_) (fun c27 => ?_)
        · refine WL.pick rfl rfl rfl ?_
          refine WL.move rfl rfl ?_
          refine WL.take rfl ?_
          refine WL.move rfl rfl ?_
          refine WL.take rfl ?_
          refine WL.move rfl rfl ?_
          refine WL.take rfl ?_
          refine WL.eql rfl rfl rfl (fun c28 => ?_) (fun c28 => ?_)
          · refine WL.pick rfl rfl rfl ?_
            refine WL.move rfl rfl ?_
            refine WL.take rfl ?_
            refine WL.move rfl rfl ?_
            refine WL.take rfl ?_
            refine WL.move rfl rfl ?_
            refine WL.take rfl ?_
            refine WL.eql rfl rfl rfl (fun c29 => ?_) (fun c29 => ?_)
            · refine WL.pick rfl rfl rfl ?_
              refine WL.assign rfl rfl ?_
              refine WL.done ?_
              refine W.ret ?_
              refine ⟨_, rfl, ?_⟩
              exact ⟨rfl, hB⟩
            · exfalso
              exact c29 rfl
          · exfalso
            exact c28 rfl
        · exfalso
          exact c27 rfl
      · exfalso
        exact c26 rfl
    · exfalso
      exact c25 rfl
  · exfalso
    exact c24 rfl

set_option maxHeartbeats 4000000 in
theorem NumberFactored_c {w : World} {Bl : Nat} {Al : Option Addr} {ml cl : Nat} {xl : List Int} (hl : Rd Bl w 1 Al ml cl (is xl)) {X : Int} (hX : -9223372036854775808 ≤ X ∧ X ≤ 9223372036854775807) (hIl : ILim xl) :
    Calls Try.prog 14 #[.int .i64 X, .slice Al ml cl] w fun e w2 => ∃ v, e = .returned v ∧ (fun v w2 => v = .bool true ∧ w.grownBy w2 none) v w2 := by
  have hl := hl.norm
  have hl_l := hl.ilen
  have hl_x := hl.max
  simp only [maxLen] at hl_x
  have hl_c := hl.cap
  have hl0 := hl
  have hB := ext_refl w
  refine calls_of_W (vs := [.int .i64 X, .slice Al ml cl]) [4] Try.func14 rfl rfl rfl rfl ?_
  refine W.seq ?_
  refine W.region ?_
  refine WL.assign rfl rfl ?_
  refine WL.done ?_
  refine W.seq ?_
  refine W.seq ?_
  refine W.region ?_
  refine WL.call Try.func15 rfl Try.nm15 rfl rfl (awake_c) ?_
  rintro _ w11 ⟨rfl, hGw11⟩
  have hB := ext_trans hB hGw11
  have hl := hl0.ext hB
  refine WL.not rfl rfl ?_
  refine WL.move rfl rfl ?_
  refine WL.take rfl ?_
  refine WL.move rfl rfl ?_
  refine WL.take rfl ?_
  refine WL.len Try.underlying29 rfl rfl ?_
  refine WL.take rfl ?_
  refine WL.gtr rfl rfl rfl (fun hl100 => ?_) (fun hl100 => ?_)
  · refine WL.pick rfl rfl rfl ?_
    refine WL.done ?_
    refine W.condT rfl ?_
    refine W.seq ?_
    refine W.region ?_
    refine WL.call Try.func15 rfl Try.nm15 rfl rfl (awake_c) ?_
    rintro _ w13 ⟨rfl, hGw13⟩
    have hB := ext_trans hB hGw13
    refine WL.assign rfl rfl ?_
    refine WL.done ?_
    refine W.ret ?_
    refine ⟨_, rfl, ?_⟩
    exact ⟨rfl, hB⟩
  · refine WL.pick rfl rfl rfl ?_
    refine WL.done ?_
    refine W.condF rfl ?_
    refine W.skip ?_
    refine W.seq ?_
    refine W.region ?_
    refine WL.move rfl rfl ?_
    refine WL.move rfl rfl ?_
    refine WL.call Try.func42 rfl Try.nm42 rfl rfl (Product_c hl (by omega) hIl) ?_
    rintro _ w14 ⟨rfl, hGw14⟩
    have hB := ext_trans hB hGw14
    have hl := hl0.ext hB
    refine WL.move rfl rfl ?_
    refine WL.extract rfl rfl rfl ?_
    refine WL.extract rfl rfl rfl ?_
    refine WL.assign rfl rfl ?_
    refine WL.assign rfl rfl ?_
    refine WL.done ?_
    refine W.seq ?_
    refine W.region ?_
    refine WL.move rfl rfl ?_
    refine WL.move rfl rfl ?_
    refine WL.call Try.func43 rfl Try.nm43 rfl rfl (rProduct_c hl (by omega) hIl) ?_
    rintro _ w15 ⟨rfl, hGw15⟩
    have hB := ext_trans hB hGw15
    have hl := hl0.ext hB
    refine WL.move rfl rfl ?_
    refine WL.extract rfl rfl rfl ?_
    refine WL.extract rfl rfl rfl ?_
    refine WL.assign rfl rfl ?_
    refine WL.assign rfl rfl ?_
    refine WL.done ?_
    refine W.seq ?_
    refine W.region ?_
    refine WL.assign rfl rfl ?_
    refine WL.done ?_
    refine W.seq ?_
    refine W.seq ?_
    refine W.region ?_
    refine WL.move rfl rfl ?_
    refine WL.len Try.underlying29 rfl rfl ?_
    refine WL.sub (r := (((ml : Nat) : Int) - 1)) rfl rfl (wi64 (by omega) (by omega) (by omega)) rfl ?_
    refine WL.assign rfl rfl ?_
    refine WL.done ?_
    refine W.block ?_
    refine W.loop (σ := Nat × Option Addr × Nat × Nat) (fun s w1 => match s with | (j, Ab, mb, cb) => w.grownBy w1 none ∧ j ≤ ml ∧ Own w.heap.size w1 3 1 Ab mb cb (is ((xl.drop j).reverse))) (fun s => match s with | (j, Ab, mb, cb) => [(0, .int .i64 X), (1, .slice Al ml cl), (5, .int .i64 (((prodS X xl).1 : Nat) : Int)), (6, .int .i64 (((prodS X xl).2 : Nat) : Int)), (7, .int .i64 (((prodS X xl).1 : Nat) : Int)), (8, .int .i64 (((prodS X xl).2 : Nat) : Int)), (9, .slice Ab mb cb), (10, .int .i64 (((j : Nat) : Int) - 1))]) (fun s => match s with | (j, Ab, mb, cb) => j) (ml, none, 0, 0) ?_ ?_ ?_
    · exact ⟨hB, by omega, by rw [← hl_l, List.drop_length]; exact World.ownsRow_nil _ _ _ _⟩
    · exact ⟨iv (by omega), rfl, iv (by omega), iv (by omega), iv (by omega), iv (by omega), rfl, iv (by omega), trivial⟩
    · rintro ⟨j, Ab, mb, cb⟩ w16 ⟨hB, hj, hb⟩
      have hl := hl0.ext hB
      have hb_l := hb.rd.ilen
      simp only [List.length_reverse, List.length_drop] at hb_l
      refine W.seq ?_
      refine W.seq ?_
      refine W.region ?_
      refine WL.move rfl rfl ?_
      refine WL.geq rfl rfl rfl (fun c17 => ?_) (fun c17 => ?_)
      · refine WL.done ?_
        refine W.condT rfl ?_
        refine W.skip ?_
        refine W.seq ?_
        refine W.block ?_
        refine W.region ?_
        refine WL.move rfl rfl ?_
        refine WL.move rfl rfl ?_
        refine WL.move rfl rfl ?_
        refine WL.index1 (j - 1) Try.underlying29 Try.el3 rfl rfl (by omega) (by omega) hl rfl ?_
        refine WL.load Try.underlying3 rfl rfl (Rd.at_ hl (is_at (by omega))) rfl ?_
        refine WL.lit1 (b := w16.heap.size) Try.underlying29 Try.el3 rfl rfl rfl rfl (by intro v hv; simp only [List.mem_cons, List.not_mem_nil, or_false] at hv; rcases hv with rfl <;> rfl) (Nat.le_refl _) rfl ?_
        rintro A18 w19 - hO20 hGw19
        have hO20 := hO20.low (b' := w.heap.size) hB.size
        have hB := ext_trans hB hGw19
        have hb := hb.ext hGw19
        change Own _ _ _ _ _ _ _ (is ([(xl.getD (j - 1) 0)] : List Int)) at hO20
        refine WL.append (mb + 1) ((is (((xl.drop j).reverse) ++ ([(xl.getD (j - 1) 0)] : List Int)))) Try.underlying29 Try.el3 rfl rfl hb hO20.rd (is_one _) (by simp only [maxLen]; omega) (by omega) hB.size (by omega) (is_app rfl) rfl ?_
        have hOld25 := hb
        intro A21 cp22 w23 hO24 hGw23 hblw23
        have hB := ext_own hB hGw23 (fun g hg => (hOld25.bl_ge g hg).1)
        have hO24_l := hO24.rd.ilen
        refine WL.assign rfl rfl ?_
        refine WL.done ?_
        refine W.region ?_
        refine WL.move rfl rfl ?_
        refine WL.sub (r := ((((j : Nat) : Int) - 1) - (1 : Int))) rfl rfl (wi64 (by omega) (by omega) (by omega)) rfl ?_
        refine WL.assign rfl rfl ?_
        refine WL.done ?_
        refine ⟨(j - 1, A21, mb + 1, cp22), ⟨iv (by omega), rfl, iv (by omega), iv (by omega), iv (by omega), iv (by omega), rfl, iv (by omega), trivial⟩, by (dsimp only; omega), ?_⟩
        rw [rev_step (by omega) (by omega)] at hO24
        exact ⟨hB, by omega, hO24⟩
      · refine WL.done ?_
        refine W.condF rfl ?_
        refine W.exit ?_
        refine W.seq ?_
        refine W.region ?_
        refine WL.move rfl rfl ?_
        refine WL.move rfl rfl ?_
        have hj0 : j = 0 := by omega
        refine WL.call Try.func42 rfl Try.nm42 rfl rfl (Product_c hb.rd (by omega) (hIl.rdrop j)) ?_
        rintro _ w26 ⟨rfl, hGw26⟩
        have hB := ext_trans hB hGw26
        rw [hj0, List.drop_zero, prodS_rev]
        refine WL.move rfl rfl ?_
        refine WL.extract rfl rfl rfl ?_
        refine WL.extract rfl rfl rfl ?_
        refine WL.assign rfl rfl ?_
        refine WL.assign rfl rfl ?_
        refine WL.done ?_
        refine W.seq ?_
        refine W.region ?_
        refine WL.move rfl rfl ?_
        refine WL.move rfl rfl ?_
        refine WL.eql rfl rfl rfl (fun c27 => ?_) (fun c27 => ?_)
        · refine WL.move rfl rfl ?_
          refine WL.take rfl ?_
          refine WL.move rfl rfl ?_
          refine WL.take rfl ?_
          refine WL.move rfl rfl ?_
          refine WL.take rfl ?_
          refine WL.eql rfl rfl rfl (fun c28 => ?_) (fun c28 => ?_)
          · refine WL.pick rfl rfl rfl ?_
            refine WL.move rfl rfl ?_
            refine WL.take rfl ?_
            refine WL.move rfl rfl ?_
            refine WL.take rfl ?_
            refine WL.move rfl rfl ?_
            refine WL.take rfl ?_
            refine WL.eql rfl rfl rfl (fun c29 => ?_) (fun c29 => ?_)
            · refine WL.pick rfl rfl rfl ?_
              refine WL.move rfl rfl ?_
              refine WL.take rfl ?_
              refine WL.move rfl rfl ?_
              refine WL.take rfl ?_
              refine WL.move rfl rfl ?_
              refine WL.take rfl ?_
              refine WL.eql rfl rfl rfl (fun c30 => ?_) (fun c30 => ?_)
              · refine WL.pick rfl rfl rfl ?_
                refine WL.assign rfl rfl ?_
                refine WL.done ?_
                refine W.ret ?_
                refine ⟨_, rfl, ?_⟩
                exact ⟨rfl, hB⟩
              · exfalso
                exact c30 rfl
            · exfalso
              exact c29 rfl
          · exfalso
            exact c28 rfl
        · exfalso
          exact c27 rfl

set_option maxHeartbeats 4000000 in
theorem NumberChinese_c {w : World} {Br : Nat} {Ar : Option Addr} {mr cr : Nat} {xr : List Int} (hr : Rd Br w 1 Ar mr cr (is xr)) {Bm : Nat} {Am : Option Addr} {mm cm : Nat} {xm : List Int} (hm : Rd Bm w 1 Am mm cm (is xm)) (hIr : ILim xr) (hIm : ILim xm) :
    Calls Try.prog 11 #[.slice Ar mr cr, .slice Am mm cm] w fun e w2 => ∃ v, e = .returned v ∧ (fun v w2 => v = .bool true ∧ w.grownBy w2 none) v w2 := by
  have hr := hr.norm
  have hr_l := hr.ilen
  have hr_x := hr.max
  simp only [maxLen] at hr_x
  have hr_c := hr.cap
  have hr0 := hr
  have hm := hm.norm
  have hm_l := hm.ilen
  have hm_x := hm.max
  simp only [maxLen] at hm_x
  have hm_c := hm.cap
  have hm0 := hm
  obtain ⟨X, Q, er, hR⟩ := ChiR.ex xr xm
  have hB := ext_refl w
  refine calls_of_W (vs := [.slice Ar mr cr, .slice Am mm cm]) [4] Try.func11 rfl rfl rfl rfl ?_
  refine W.seq ?_
  refine W.region ?_
  refine WL.assign rfl rfl ?_
  refine WL.done ?_
  refine W.seq ?_
  refine W.seq ?_
  refine W.region ?_
  refine WL.call Try.func15 rfl Try.nm15 rfl rfl (awake_c) ?_
  rintro _ w11 ⟨rfl, hGw11⟩
  have hB := ext_trans hB hGw11
  have hr := hr0.ext hB
  have hm := hm0.ext hB
  refine WL.not rfl rfl ?_
  refine WL.move rfl rfl ?_
  refine WL.take rfl ?_
  refine WL.move rfl rfl ?_
  refine WL.take rfl ?_
  refine WL.len Try.underlying29 rfl rfl ?_
  refine WL.take rfl ?_
  refine WL.gtr rfl rfl rfl (fun c12 => ?_) (fun c12 => ?_)
  · refine WL.pick rfl rfl rfl ?_
    refine WL.done ?_
    refine W.condT rfl ?_
    refine W.seq ?_
    refine W.region ?_
    refine WL.call Try.func15 rfl Try.nm15 rfl rfl (awake_c) ?_
    rintro _ w13 ⟨rfl, hGw13⟩
    have hB := ext_trans hB hGw13
    refine WL.assign rfl rfl ?_
    refine WL.done ?_
    refine W.ret ?_
    refine ⟨_, rfl, ?_⟩
    exact ⟨rfl, hB⟩
  · refine WL.pick rfl rfl rfl ?_
    refine WL.done ?_
    refine W.condF rfl ?_
    refine W.skip ?_
    refine W.seq ?_
    refine W.region ?_
    refine WL.move rfl rfl ?_
    refine WL.move rfl rfl ?_
    refine WL.call Try.func40 rfl Try.nm40 rfl rfl (Chinese_c hr hm hIr hIm X Q er hR) ?_
    rintro _ w14 ⟨rfl, hGw14⟩
    have hB := ext_trans hB hGw14
    have hr := hr0.ext hB
    have hm := hm0.ext hB
    refine WL.move rfl rfl ?_
    refine WL.extract rfl rfl rfl ?_
    refine WL.extract rfl rfl rfl ?_
    refine WL.extract rfl rfl rfl ?_
    refine WL.assign rfl rfl ?_
    refine WL.assign rfl rfl ?_
    refine WL.assign rfl rfl ?_
    refine WL.done ?_
    refine W.seq ?_
    refine W.region ?_
    refine WL.move rfl rfl ?_
    refine WL.move rfl rfl ?_
    refine WL.call Try.func41 rfl Try.nm41 rfl rfl (rChinese_c hr hm hIr hIm X Q er hR) ?_
    rintro _ w15 ⟨rfl, hGw15⟩
    have hB := ext_trans hB hGw15
    refine WL.move rfl rfl ?_
    refine WL.extract rfl rfl rfl ?_
    refine WL.extract rfl rfl rfl ?_
    refine WL.extract rfl rfl rfl ?_
    refine WL.assign rfl rfl ?_
    refine WL.assign rfl rfl ?_
    refine WL.assign rfl rfl ?_
    refine WL.done ?_
    refine W.seq ?_
    refine W.region ?_
    refine WL.move rfl rfl ?_
    refine WL.move rfl rfl ?_
    refine WL.eql rfl rfl rfl (fun c16 => ?_) (fun c16 => ?_)
    · refine WL.move rfl rfl ?_
      refine WL.take rfl ?_
      refine WL.move rfl rfl ?_
      refine WL.take rfl ?_
      refine WL.move rfl rfl ?_
      refine WL.take rfl ?_
      refine WL.eql rfl rfl rfl (fun c17 => ?_) (fun c17 => ?_)
      · refine WL.pick rfl rfl rfl ?_
        refine WL.move rfl rfl ?_
        refine WL.take rfl ?_
        refine WL.move rfl rfl ?_
        refine WL.take rfl ?_
        refine WL.move rfl rfl ?_
        refine WL.take rfl ?_
        refine WL.eql rfl rfl rfl (fun c18 => ?_) (fun c18 => ?_)
        · refine WL.pick rfl rfl rfl ?_
          refine WL.assign rfl rfl ?_
          refine WL.done ?_
          refine W.ret ?_
          refine ⟨_, rfl, ?_⟩
          exact ⟨rfl, hB⟩
        · exfalso
          exact c18 rfl
      · exfalso
        exact c17 rfl
    · exfalso
      exact c16 rfl

set_option maxHeartbeats 4000000 in
theorem NumberCongruent_c {w : World} {Br : Nat} {Ar : Option Addr} {mr cr : Nat} {xr : List Int} (hr : Rd Br w 1 Ar mr cr (is xr)) {Bm : Nat} {Am : Option Addr} {mm cm : Nat} {xm : List Int} (hm : Rd Bm w 1 Am mm cm (is xm)) (hIr : ILim xr) (hIm : ILim xm) {Z : Int} (hZ : -9223372036854775808 ≤ Z ∧ Z ≤ 9223372036854775807) :
    Calls Try.prog 12 #[.slice Ar mr cr, .slice Am mm cm, .int .i64 Z] w fun e w2 => ∃ v, e = .returned v ∧ (fun v w2 => v = .bool true ∧ w.grownBy w2 none) v w2 := by
  have hr := hr.norm
  have hr_l := hr.ilen
  have hr_x := hr.max
  simp only [maxLen] at hr_x
  have hr_c := hr.cap
  have hr0 := hr
  have hm := hm.norm
  have hm_l := hm.ilen
  have hm_x := hm.max
  simp only [maxLen] at hm_x
  have hm_c := hm.cap
  have hm0 := hm
  obtain ⟨X, Q, er, hR⟩ := ChiR.ex xr xm
  have hB := ext_refl w
  refine calls_of_W (vs := [.slice Ar mr cr, .slice Am mm cm, .int .i64 Z]) [6] Try.func12 rfl rfl rfl rfl ?_
  refine W.seq ?_
  refine W.region ?_
  refine WL.assign rfl rfl ?_
  refine WL.done ?_
  refine W.seq ?_
  refine W.seq ?_
  refine W.region ?_
  refine WL.call Try.func15 rfl Try.nm15 rfl rfl (awake_c) ?_
  rintro _ w11 ⟨rfl, hGw11⟩
  have hB := ext_trans hB hGw11
  have hr := hr0.ext hB
  have hm := hm0.ext hB
  refine WL.not rfl rfl ?_
  refine WL.move rfl rfl ?_
  refine WL.take rfl ?_
  refine WL.move rfl rfl ?_
  refine WL.take rfl ?_
  refine WL.len Try.underlying29 rfl rfl ?_
  refine WL.take rfl ?_
  refine WL.gtr rfl rfl rfl (fun c12 => ?_) (fun c12 => ?_)
  · refine WL.pick rfl rfl rfl ?_
    refine WL.move rfl rfl ?_
    refine WL.pass rfl rfl rfl ?_
    refine WL.pass rfl rfl rfl ?_
    refine WL.pass rfl rfl rfl ?_
    refine WL.pick rfl rfl rfl ?_
    refine WL.done ?_
    refine W.condT rfl ?_
    refine W.seq ?_
    refine W.region ?_
    refine WL.call Try.func15 rfl Try.nm15 rfl rfl (awake_c) ?_
    rintro _ w13 ⟨rfl, hGw13⟩
    have hB := ext_trans hB hGw13
    refine WL.assign rfl rfl ?_
    refine WL.done ?_
    refine W.ret ?_
    refine ⟨_, rfl, ?_⟩
    first
    | exact ⟨rfl, hB⟩
    | (cases b
       · exact ⟨rfl, hB⟩
       · exact absurd (hk.uniq Z (hb rfl).1.1 (hb rfl).1.2.1 (fun j hj => (hb rfl).2 j (by omega))) (hb rfl).1.2.2)
  · refine WL.pick rfl rfl rfl ?_
    refine WL.move rfl rfl ?_
    refine WL.take rfl ?_
    refine WL.move rfl rfl ?_
    refine WL.take rfl ?_
    refine WL.len Try.underlying29 rfl rfl ?_
    refine WL.take rfl ?_
    refine WL.gtr rfl rfl rfl (fun c14 => ?_) (fun c14 => ?_)
    · refine WL.pick rfl rfl rfl ?_
      refine WL.done ?_
      refine W.condT rfl ?_
      refine W.seq ?_
      refine W.region ?_
      refine WL.call Try.func15 rfl Try.nm15 rfl rfl (awake_c) ?_
      rintro _ w15 ⟨rfl, hGw15⟩
      have hB := ext_trans hB hGw15
      refine WL.assign rfl rfl ?_
      refine WL.done ?_
      refine W.ret ?_
      refine ⟨_, rfl, ?_⟩
      first
      | exact ⟨rfl, hB⟩
      | (cases b
         · exact ⟨rfl, hB⟩
         · exact absurd (hk.uniq Z (hb rfl).1.1 (hb rfl).1.2.1 (fun j hj => (hb rfl).2 j (by omega))) (hb rfl).1.2.2)
    · refine WL.pick rfl rfl rfl ?_
      refine WL.done ?_
      refine W.condF rfl ?_
      refine W.skip ?_
      refine W.seq ?_
      refine W.region ?_
      refine WL.move rfl rfl ?_
      refine WL.move rfl rfl ?_
      refine WL.call Try.func40 rfl Try.nm40 rfl rfl (Chinese_c hr hm hIr hIm X Q er hR) ?_
      rintro _ w16 ⟨rfl, hGw16⟩
      have hB := ext_trans hB hGw16
      have hr := hr0.ext hB
      have hm := hm0.ext hB
      refine WL.move rfl rfl ?_
      refine WL.extract rfl rfl rfl ?_
      refine WL.extract rfl rfl rfl ?_
      refine WL.extract rfl rfl rfl ?_
      refine WL.assign rfl rfl ?_
      refine WL.assign rfl rfl ?_
      refine WL.assign rfl rfl ?_
      refine WL.done ?_
      refine W.seq ?_
      refine W.seq ?_
      refine W.region ?_
      refine WL.move rfl rfl ?_
      refine WL.neq rfl rfl rfl (fun c_e => ?_) (fun c_e => ?_)
      · refine WL.done ?_
        refine W.condT rfl ?_
        refine W.seq ?_
        refine W.region ?_
        refine WL.move rfl rfl ?_
        refine WL.eql rfl rfl rfl (fun c18 => ?_) (fun c18 => ?_)
        · refine WL.move rfl rfl ?_
          refine WL.take rfl ?_
          refine WL.move rfl rfl ?_
          refine WL.take rfl ?_
          refine WL.eql rfl rfl rfl (fun c19 => ?_) (fun c19 => ?_)
          · refine WL.pick rfl rfl rfl ?_
            refine WL.assign rfl rfl ?_
            refine WL.done ?_
            refine W.ret ?_
            refine ⟨_, rfl, ?_⟩
            first
            | exact ⟨rfl, hB⟩
            | (cases b
               · exact ⟨rfl, hB⟩
               · exact absurd (hk.uniq Z (hb rfl).1.1 (hb rfl).1.2.1 (fun j hj => (hb rfl).2 j (by omega))) (hb rfl).1.2.2)
          · exfalso
            have := (chiR_err hR (by omega)).2
            omega
        · exfalso
          have := (chiR_err hR (by omega)).1
          omega
      · refine WL.done ?_
        refine W.condF rfl ?_
        refine W.skip ?_
        refine W.seq ?_
        refine W.seq ?_
        refine W.region ?_
        have hk := chiR_ok hR (by omega)
        have hkl := hk.len
        have hkt := hk.lt
        refine WL.move rfl rfl ?_
        refine WL.len Try.underlying29 rfl rfl ?_
        refine WL.move rfl rfl ?_
        refine WL.len Try.underlying29 rfl rfl ?_
        refine WL.neq rfl rfl rfl (fun c20 => ?_) (fun c20 => ?_)
        · exfalso
          omega
        · refine WL.move rfl rfl ?_
          refine WL.take rfl ?_
          refine WL.move rfl rfl ?_
          refine WL.take rfl ?_
          refine WL.lss rfl rfl rfl (fun c21 => ?_) (fun c21 => ?_)
          · exfalso
            omega
          · refine WL.pick rfl rfl rfl ?_
            refine WL.move rfl rfl ?_
            refine WL.take rfl ?_
            refine WL.move rfl rfl ?_
            refine WL.take rfl ?_
            refine WL.move rfl rfl ?_
            refine WL.take rfl ?_
            refine WL.geq rfl rfl rfl (fun c22 => ?_) (fun c22 => ?_)
            · exfalso
              omega
            · refine WL.pick rfl rfl rfl ?_
              refine WL.done ?_
              refine W.condF rfl ?_
              refine W.skip ?_
              refine W.seq ?_
              refine W.region ?_
              refine WL.move rfl rfl ?_
              refine WL.geq rfl rfl rfl (fun c23 => ?_) (fun c23 => ?_)
              · refine WL.move rfl rfl ?_
                refine WL.take rfl ?_
                refine WL.move rfl rfl ?_
                refine WL.take rfl ?_
                refine WL.move rfl rfl ?_
                refine WL.take rfl ?_
                refine WL.lss rfl rfl rfl (fun c24 => ?_) (fun c24 => ?_)
                · refine WL.pick rfl rfl rfl ?_
                  refine WL.move rfl rfl ?_
                  refine WL.take rfl ?_
                  refine WL.move rfl rfl ?_
                  refine WL.take rfl ?_
                  refine WL.move rfl rfl ?_
                  refine WL.take rfl ?_
                  refine WL.neq rfl rfl rfl (fun c25 => ?_) (fun c25 => ?_)
                  · refine WL.pick rfl rfl rfl ?_
                    refine WL.assign rfl rfl ?_
                    refine WL.done ?_
                    refine W.seq ?_
                    refine W.seq ?_
                    refine W.region ?_
                    refine WL.move rfl rfl ?_
                    refine WL.len Try.underlying29 rfl rfl ?_
                    refine WL.move rfl rfl ?_
                    refine WL.done ?_
                    refine W.block ?_
                    refine W.loop (σ := Nat × Bool) (fun s w1 => match s with | (i, b) => w.grownBy w1 none ∧ i ≤ mm ∧ (b = true → (0 ≤ Z ∧ Z < Q ∧ Z ≠ X) ∧ ∀ j, j < i → Z.tmod (xm.getD j 0) = (X : Int).tmod (xm.getD j 0))) (fun s => match s with | (i, b) => [(0, .slice Ar mr cr), (1, .slice Am mm cm), (2, .int .i64 Z), (7, .int .i64 ((X : Nat) : Int)), (8, .int .i64 ((Q : Nat) : Int)), (10, .bool b), (67, .slice Am mm cm), (68, .int .i64 ((mm : Nat) : Int)), (69, .int .i64 ((i : Nat) : Int))]) (fun s => match s with | (i, b) => mm - i) (0, true) ?_ ?_ ?_
                    · exact ⟨hB, by omega, fun h => by first | exact ⟨⟨by omega, by omega, by omega⟩, fun j h => by omega⟩ | cases h⟩
                    · exact ⟨rfl, rfl, iv (by omega), iv (by omega), iv (by omega), rfl, rfl, iv (by omega), iv (by omega), trivial⟩
                    · rintro ⟨i, b⟩ w26 ⟨hB, hi, hb⟩
                      have hr := hr0.ext hB
                      have hm := hm0.ext hB
                      refine W.seq ?_
                      refine W.region ?_
                      refine WL.lss rfl rfl rfl (fun c27 => ?_) (fun c27 => ?_)
                      · refine WL.done ?_
                        refine W.seq ?_
                        refine W.condT rfl ?_
                        refine W.skip ?_
                        refine W.seq ?_
                        refine W.block ?_
                        refine W.seq ?_
                        have hil : i < xm.length := (by omega); have hmr := hk.rng _ (imem hil); have hka := hk.all i hil; have hmt : (((xm.getD i 0).toNat : Nat) : Int) = xm.getD i 0 := (by omega); have hIi := hIr.getD i; have hrn := Int.emod_nonneg (xr.getD i 0) (show xm.getD i 0 ≠ 0 by omega); have hxt : (X : Int).tmod (xm.getD i 0) = (((xr.getD i 0) % (((xm.getD i 0).toNat : Nat) : Int)).toNat : Nat) := (by rw [Int.tmod_eq_emod_of_nonneg (by omega), hmt, hka]; omega)
                        · refine W.region ?_
                          refine WL.move rfl rfl ?_
                          refine WL.index1 (i) Try.underlying29 Try.el3 rfl rfl (by omega) (by omega) hm rfl ?_
                          refine WL.load Try.underlying3 rfl rfl (Rd.at_ hm (is_at (by omega))) rfl ?_
                          refine WL.assign rfl rfl ?_
                          refine WL.assign rfl rfl ?_
                          refine WL.done ?_
                          refine W.seq ?_
                          refine W.seq ?_
                          refine W.draw [⟨[], [12], true⟩, ⟨[0], [], true⟩, ⟨[1], [], true⟩, ⟨[2], [7], true⟩, ⟨[2], [12], true⟩, ⟨[2, 3, 4], [], true⟩, ⟨[2], [0], true⟩, ⟨[2], [11], true⟩, ⟨[2, 6, 7], [], true⟩, ⟨[2, 8], [], false⟩, ⟨[2], [12], true⟩, ⟨[2, 9, 10], [], false⟩, ⟨[2, 5, 11], [], true⟩, ⟨[2, 12], [], true⟩] [[(12, .int .i64 (xm.getD i 0))], [], [], [(7, .int .i64 ((X : Nat) : Int))], [(12, .int .i64 (xm.getD i 0))], [], [(0, .slice Ar mr cr)], [(11, .int .i64 ((i : Nat) : Int))], [], [], [(12, .int .i64 (xm.getD i 0))], [], [], []] (fun iQ => [fun v wQ => v = .int .i64 (xm.getD i 0), fun v _ => v = .bool false, fun v wQ => v = .bool false, fun v wQ => v = .int .i64 ((X : Nat) : Int), fun v wQ => v = .int .i64 (xm.getD i 0), fun v wQ => v = .int .i64 (((((xr.getD i 0) % (((xm.getD i 0).toNat : Nat) : Int)).toNat) : Nat) : Int), fun v wQ => v = .slice Ar mr cr, fun v wQ => v = .int .i64 ((i : Nat) : Int), fun v wQ => v = .pointer (some ((adOf Ar).add i)), fun v wQ => v = .int .i64 (xr.getD i 0), fun v wQ => v = .int .i64 (xm.getD i 0), fun v wQ => v = .int .i64 (((((xr.getD i 0) % (((xm.getD i 0).toNat : Nat) : Int)).toNat) : Nat) : Int), fun v wQ => v = .bool false, fun v wQ => v = .bool false].getD iQ (fun _ _ => True)) (fun _ => True) 14 Try.mixed (by kernel_rfl) ?_ ?_ ?_
                          · refine Vs_mono _ ?_
                            intro VQ hVQ vQ wQ1 wQ2 hQ1 hQ2
                            have hQ2 := hQ2.resolve_right (by decide)
                            simp only [List.mem_cons, List.not_mem_nil, or_false] at hVQ
                            rcases hVQ with rfl | rfl | rfl | rfl | rfl | rfl | rfl | rfl | rfl | rfl | rfl | rfl | rfl | rfl
                            · exact hQ1
                            · exact hQ1
                            · exact hQ1
                            · exact hQ1
                            · exact hQ1
                            · exact hQ1
                            · exact hQ1
                            · exact hQ1
                            · exact hQ1
                            · exact hQ1
                            · exact hQ1
                            · exact hQ1
                            · exact hQ1
                            · exact hQ1
                          · refine ⟨⟨rfl, ⟨rfl, trivial⟩, ?_⟩, ⟨rfl, trivial, ?_⟩, ⟨rfl, trivial, ?_⟩, ⟨rfl, ⟨rfl, trivial⟩, ?_⟩, ⟨rfl, ⟨rfl, trivial⟩, ?_⟩, ⟨rfl, trivial, ?_⟩, ⟨rfl, ⟨rfl, trivial⟩, ?_⟩, ⟨rfl, ⟨rfl, trivial⟩, ?_⟩, ⟨rfl, trivial, ?_⟩, ⟨rfl, trivial, ?_⟩, ⟨rfl, ⟨rfl, trivial⟩, ?_⟩, ⟨rfl, trivial, ?_⟩, ⟨rfl, trivial, ?_⟩, ⟨rfl, trivial, ?_⟩, trivial⟩
                            · intro w28 hE
                              intro R
                              refine WL.move rfl rfl ?_
                              exact WL.done ⟨_, rfl, rfl, rfl⟩
                            · intro w29 hE
                              rintro _ rfl
                              intro R
                              refine WL.lssD rfl rfl rfl ?_
                              exact WL.done ⟨_, rfl, rfl, (dec_f (by omega))⟩
                            · intro w30 hE
                              rintro _ rfl
                              intro R
                              refine WL.move rfl rfl ?_
                              exact WL.done ⟨_, rfl, rfl, rfl⟩
                            · intro w31 hE
                              rintro _ rfl
                              intro R
                              refine WL.take rfl ?_
                              refine WL.move rfl rfl ?_
                              exact WL.done ⟨_, rfl, rfl, rfl⟩
                            · intro w32 hE
                              rintro _ rfl
                              intro R
                              refine WL.take rfl ?_
                              refine WL.move rfl rfl ?_
                              exact WL.done ⟨_, rfl, rfl, rfl⟩
                            · intro w33 hE
                              rintro _ rfl
                              rintro _ rfl
                              rintro _ rfl
                              intro R
                              refine WL.take rfl ?_
                              refine WL.rem (r := (((((xr.getD i 0) % (((xm.getD i 0).toNat : Nat) : Int)).toNat) : Nat) : Int)) rfl rfl (by omega) hxt rfl ?_
                              exact WL.done ⟨_, rfl, rfl, rfl⟩
                            · intro w34 hE
                              rintro _ rfl
                              intro R
                              refine WL.take rfl ?_
                              refine WL.move rfl rfl ?_
                              exact WL.done ⟨_, rfl, rfl, rfl⟩
                            · intro w35 hE
                              rintro _ rfl
                              intro R
                              refine WL.take rfl ?_
                              refine WL.move rfl rfl ?_
                              exact WL.done ⟨_, rfl, rfl, rfl⟩
                            · intro w36 hE
                              rintro _ rfl
                              rintro _ rfl
                              rintro _ rfl
                              intro R
                              refine WL.take rfl ?_
                              refine WL.index1 (i) Try.underlying29 Try.el3 rfl rfl (by omega) (by omega) hr rfl ?_
                              exact WL.done ⟨_, rfl, rfl, rfl⟩
                            · intro w37 hE
                              have hE := hE rfl
                              have hB := ext_trans hB hE
                              have hr := hr0.ext hB
                              rintro _ rfl
                              rintro _ rfl
                              intro R
                              refine WL.take rfl ?_
                              refine WL.load Try.underlying3 rfl rfl (Rd.at_ hr (is_at (by omega))) rfl ?_
                              exact WL.done ⟨_, rfl, ext_refl _, rfl⟩
                            · intro w38 hE
                              rintro _ rfl
                              intro R
                              refine WL.take rfl ?_
                              refine WL.move rfl rfl ?_
                              exact WL.done ⟨_, rfl, rfl, rfl⟩
                            · intro w39 hE
                              have hE := hE rfl
                              have hB := ext_trans hB hE
                              rintro _ rfl
                              rintro _ rfl
                              rintro _ rfl
                              intro R
                              refine WL.take rfl ?_
                              refine WL.call Try.func38 rfl Try.nm38 rfl rfl (rMod_c (by omega) (xm.getD i 0).toNat (by omega) (by omega) (by omega)) ?_
                              rintro _ w40 ⟨rfl, hGw40⟩
                              have hB := ext_trans hB hGw40
                              exact WL.done ⟨_, rfl, hGw40, rfl⟩
                            · intro w41 hE
                              rintro _ rfl
                              rintro _ rfl
                              rintro _ rfl
                              intro R
                              refine WL.take rfl ?_
                              refine WL.neqD rfl rfl rfl ?_
                              rw [show decide ((((((xr.getD i 0) % (((xm.getD i 0).toNat : Nat) : Int)).toNat) : Nat) : Int) ≠ (((((xr.getD i 0) % (((xm.getD i 0).toNat : Nat) : Int)).toNat) : Nat) : Int)) = false from decide_eq_false (fun h => h rfl)]
                              exact WL.done ⟨_, rfl, rfl, rfl⟩
                            · intro w42 hE
                              rintro _ rfl
                              rintro _ rfl
                              intro R
                              refine WL.pick rfl rfl rfl ?_
                              exact WL.done ⟨_, rfl, rfl, rfl⟩
                          · intro vals w43 hT hVs
                            rw [if_neg (by decide)] at hT
                            have hB := ext_trans hB hT
                            have hv0 : vals 0 = _ := hVs 0 (by decide) (by decide)
                            have hv1 : vals 1 = _ := hVs 1 (by decide) (by decide)
                            have hv2 : vals 2 = _ := hVs 2 (by decide) (by decide)
                            have hv3 : vals 3 = _ := hVs 3 (by decide) (by decide)
                            have hv4 : vals 4 = _ := hVs 4 (by decide) (by decide)
                            have hv5 : vals 5 = _ := hVs 5 (by decide) (by decide)
                            have hv6 : vals 6 = _ := hVs 6 (by decide) (by decide)
                            have hv7 : vals 7 = _ := hVs 7 (by decide) (by decide)
                            have hv8 : vals 8 = _ := hVs 8 (by decide) (by decide)
                            have hv9 : vals 9 = _ := hVs 9 (by decide) (by decide)
                            have hv10 : vals 10 = _ := hVs 10 (by decide) (by decide)
                            have hv11 : vals 11 = _ := hVs 11 (by decide) (by decide)
                            have hv12 : vals 12 = _ := hVs 12 (by decide) (by decide)
                            have hv13 : vals 13 = _ := hVs 13 (by decide) (by decide)
                            rw [show (List.filterMap (fun i => Option.map (fun t => (t, vals i)) (dstAt _ i)) (List.range _)) = [(74, .int .i64 (xm.getD i 0)), (75, .bool false), (76, .bool false), (77, .int .i64 ((X : Nat) : Int)), (78, .int .i64 (xm.getD i 0)), (79, .int .i64 (((((xr.getD i 0) % (((xm.getD i 0).toNat : Nat) : Int)).toNat) : Nat) : Int)), (80, .slice Ar mr cr), (81, .int .i64 ((i : Nat) : Int)), (82, .pointer (some ((adOf Ar).add i))), (83, .int .i64 (xr.getD i 0)), (84, .int .i64 (xm.getD i 0)), (85, .int .i64 (((((xr.getD i 0) % (((xm.getD i 0).toNat : Nat) : Int)).toNat) : Nat) : Int)), (86, .bool false), (87, .bool false)] from by
                              show [(74, vals 0), (75, vals 1), (76, vals 2), (77, vals 3), (78, vals 4), (79, vals 5), (80, vals 6), (81, vals 7), (82, vals 8), (83, vals 9), (84, vals 10), (85, vals 11), (86, vals 12), (87, vals 13)] = _
                              rw [hv0, hv1, hv2, hv3, hv4, hv5, hv6, hv7, hv8, hv9, hv10, hv11, hv12, hv13]]
                            refine W.condF rfl ?_
                            refine W.skip ?_
                            rcases b with _ | _
                            · refine W.drawT 8 [⟨[], [10], true⟩, ⟨[0], [], true⟩, ⟨[1], [2], true⟩, ⟨[1], [12], true⟩, ⟨[1, 2, 3], [], true⟩, ⟨[1], [7], true⟩, ⟨[1], [12], true⟩, ⟨[1, 5, 6], [], true⟩] [[(10, .bool false)], [], [(2, .int .i64 Z)], [(12, .int .i64 (xm.getD i 0))], [], [(7, .int .i64 ((X : Nat) : Int))], [(12, .int .i64 (xm.getD i 0))], []] (fun iQ => [fun v wQ => v = .bool false, fun v wQ => v = .bool false, fun v wQ => v = undef, fun v wQ => v = undef, fun v wQ => v = undef, fun v wQ => v = undef, fun v wQ => v = undef, fun v wQ => v = undef].getD iQ (fun _ _ => True)) Try.mixed (by kernel_rfl) ?_ ?_ ?_
                              · refine Vs_monoT _ ?_
                                intro VQ hVQ vQ wQ1 wQ2 hQ1 hQ2
                                simp only [List.mem_cons, List.not_mem_nil, or_false] at hVQ
                                rcases hVQ with rfl | rfl | rfl | rfl | rfl | rfl | rfl | rfl
                                · exact hQ1
                                · exact hQ1
                                · exact hQ1
                                · exact hQ1
                                · exact hQ1
                                · exact hQ1
                                · exact hQ1
                                · exact hQ1
                              · refine ⟨⟨rfl, ⟨rfl, trivial⟩, ?_⟩, ⟨rfl, trivial, ?_⟩, ⟨rfl, ⟨rfl, trivial⟩, ?_⟩, ⟨rfl, ⟨rfl, trivial⟩, ?_⟩, ⟨rfl, trivial, ?_⟩, ⟨rfl, ⟨rfl, trivial⟩, ?_⟩, ⟨rfl, ⟨rfl, trivial⟩, ?_⟩, ⟨rfl, trivial, ?_⟩, trivial⟩
                                · intro w45 hE
                                  intro R
                                  refine WL.move rfl rfl ?_
                                  exact WL.done ⟨_, rfl, rfl, rfl⟩
                                · intro w46 hE
                                  rintro _ rfl
                                  intro R
                                  refine WL.move rfl rfl ?_
                                  exact WL.done ⟨_, rfl, rfl, rfl⟩
                                · intro w47 hE
                                  rintro _ rfl
                                  intro R
                                  refine WL.pass rfl rfl rfl ?_
                                  exact WL.done ⟨_, rfl, rfl, rfl⟩
                                · intro w48 hE
                                  rintro _ rfl
                                  intro R
                                  refine WL.pass rfl rfl rfl ?_
                                  exact WL.done ⟨_, rfl, rfl, rfl⟩
                                · intro w49 hE
                                  rintro _ rfl
                                  rintro _ rfl
                                  rintro _ rfl
                                  intro R
                                  refine WL.pass rfl rfl rfl ?_
                                  exact WL.done ⟨_, rfl, rfl, rfl⟩
                                · intro w50 hE
                                  rintro _ rfl
                                  intro R
                                  refine WL.pass rfl rfl rfl ?_
                                  exact WL.done ⟨_, rfl, rfl, rfl⟩
                                · intro w51 hE
                                  rintro _ rfl
                                  intro R
                                  refine WL.pass rfl rfl rfl ?_
                                  exact WL.done ⟨_, rfl, rfl, rfl⟩
                                · intro w52 hE
                                  rintro _ rfl
                                  rintro _ rfl
                                  rintro _ rfl
                                  intro R
                                  refine WL.pass rfl rfl rfl ?_
                                  exact WL.done ⟨_, rfl, rfl, rfl⟩
                              · intro vals w53 hT hVs
                                have hB := ext_trans hB hT
                                have hv0 : vals 0 = _ := hVs 0 (by decide)
                                have hv1 : vals 1 = _ := hVs 1 (by decide)
                                have hv2 : vals 2 = _ := hVs 2 (by decide)
                                have hv3 : vals 3 = _ := hVs 3 (by decide)
                                have hv4 : vals 4 = _ := hVs 4 (by decide)
                                have hv5 : vals 5 = _ := hVs 5 (by decide)
                                have hv6 : vals 6 = _ := hVs 6 (by decide)
                                have hv7 : vals 7 = _ := hVs 7 (by decide)
                                rw [show (List.filterMap (fun i => Option.map (fun t => (t, vals i)) (dstAt _ i)) (List.range _)) = [(88, .bool false), (89, .bool false), (90, undef), (91, undef), (92, undef), (93, undef), (94, undef), (95, undef)] from by
                                  show [(88, vals 0), (89, vals 1), (90, vals 2), (91, vals 3), (92, vals 4), (93, vals 5), (94, vals 6), (95, vals 7)] = _
                                  rw [hv0, hv1, hv2, hv3, hv4, hv5, hv6, hv7]]
                                refine WA.step [8] (by decide +kernel) rfl ?_
                                intro iQ hQ
                                simp only [List.mem_cons, List.not_mem_nil, or_false] at hQ
                                obtain rfl := hQ
                                · refine ⟨_, rfl, ?_⟩
                                  refine WL.pass rfl rfl rfl ?_
                                  refine WL.done ?_
                                  refine WA.step [9] (by decide +kernel) rfl ?_
                                  intro iQ hQ
                                  simp only [List.mem_cons, List.not_mem_nil, or_false] at hQ
                                  obtain rfl := hQ
                                  · refine ⟨_, rfl, ?_⟩
                                    refine WL.pick rfl rfl rfl ?_
                                    refine WL.done ?_
                                    refine WA.step [10] (by decide +kernel) rfl ?_
                                    intro iQ hQ
                                    simp only [List.mem_cons, List.not_mem_nil, or_false] at hQ
                                    obtain rfl := hQ
                                    · refine ⟨_, rfl, ?_⟩
                                      refine WL.assign rfl rfl ?_
                                      refine WL.done ?_
                                      refine WA.done (by decide +kernel) ?_
                                      refine W.region ?_
                                      refine WL.add (r := ((i + 1 : Nat) : Int)) rfl rfl (wi64 (by omega) (by omega) (by omega)) rfl ?_
                                      refine WL.move rfl rfl ?_
                                      refine WL.done ?_
                                      refine ⟨(i + 1, false), ⟨rfl, rfl, iv (by omega), iv (by omega), iv (by omega), rfl, rfl, iv (by omega), iv (by omega), trivial⟩, by (dsimp only; omega), ?_⟩
                                      exact ⟨hB, by omega, fun h => by
                                        first
                                        | (cases h; done)
                                        | (have h3 := hb rfl
                                           exact ⟨h3.1, fun j hj => (by
                                            rcases Nat.lt_succ_iff_lt_or_eq.1 hj with h1 | h1
                                            · exact h3.2 j h1
                                            · rw [h1]; assumption)⟩)⟩
                            · refine W.drawT 8 [⟨[], [10], true⟩, ⟨[0], [], true⟩, ⟨[1], [2], true⟩, ⟨[1], [12], true⟩, ⟨[1, 2, 3], [], true⟩, ⟨[1], [7], true⟩, ⟨[1], [12], true⟩, ⟨[1, 5, 6], [], true⟩] [[(10, .bool true)], [], [(2, .int .i64 Z)], [(12, .int .i64 (xm.getD i 0))], [], [(7, .int .i64 ((X : Nat) : Int))], [(12, .int .i64 (xm.getD i 0))], []] (fun iQ => [fun v wQ => v = .bool true, fun v wQ => v = .bool true, fun v wQ => v = .int .i64 Z, fun v wQ => v = .int .i64 (xm.getD i 0), fun v wQ => v = .int .i64 (Z.tmod (xm.getD i 0)), fun v wQ => v = .int .i64 ((X : Nat) : Int), fun v wQ => v = .int .i64 (xm.getD i 0), fun v wQ => v = .int .i64 (((X : Nat) : Int).tmod (xm.getD i 0))].getD iQ (fun _ _ => True)) Try.mixed (by kernel_rfl) ?_ ?_ ?_
                              · refine Vs_monoT _ ?_
                                intro VQ hVQ vQ wQ1 wQ2 hQ1 hQ2
                                simp only [List.mem_cons, List.not_mem_nil, or_false] at hVQ
                                rcases hVQ with rfl | rfl | rfl | rfl | rfl | rfl | rfl | rfl
                                · exact hQ1
                                · exact hQ1
                                · exact hQ1
                                · exact hQ1
                                · exact hQ1
                                · exact hQ1
                                · exact hQ1
                                · exact hQ1
                              · refine ⟨⟨rfl, ⟨rfl, trivial⟩, ?_⟩, ⟨rfl, trivial, ?_⟩, ⟨rfl, ⟨rfl, trivial⟩, ?_⟩, ⟨rfl, ⟨rfl, trivial⟩, ?_⟩, ⟨rfl, trivial, ?_⟩, ⟨rfl, ⟨rfl, trivial⟩, ?_⟩, ⟨rfl, ⟨rfl, trivial⟩, ?_⟩, ⟨rfl, trivial, ?_⟩, trivial⟩
                                · intro w54 hE
                                  intro R
                                  refine WL.move rfl rfl ?_
                                  exact WL.done ⟨_, rfl, rfl, rfl⟩
                                · intro w55 hE
                                  rintro _ rfl
                                  intro R
                                  refine WL.move rfl rfl ?_
                                  exact WL.done ⟨_, rfl, rfl, rfl⟩
                                · intro w56 hE
                                  rintro _ rfl
                                  intro R
                                  refine WL.take rfl ?_
                                  refine WL.move rfl rfl ?_
                                  exact WL.done ⟨_, rfl, rfl, rfl⟩
                                · intro w57 hE
                                  rintro _ rfl
                                  intro R
                                  refine WL.take rfl ?_
                                  refine WL.move rfl rfl ?_
                                  exact WL.done ⟨_, rfl, rfl, rfl⟩
                                · intro w58 hE
                                  rintro _ rfl
                                  rintro _ rfl
                                  rintro _ rfl
                                  intro R
                                  refine WL.take rfl ?_
                                  refine WL.rem (r := (Z.tmod (xm.getD i 0))) rfl rfl (by omega) rfl rfl ?_
                                  exact WL.done ⟨_, rfl, rfl, rfl⟩
                                · intro w59 hE
                                  rintro _ rfl
                                  intro R
                                  refine WL.take rfl ?_
                                  refine WL.move rfl rfl ?_
                                  exact WL.done ⟨_, rfl, rfl, rfl⟩
                                · intro w60 hE
                                  rintro _ rfl
                                  intro R
                                  refine WL.take rfl ?_
                                  refine WL.move rfl rfl ?_
                                  exact WL.done ⟨_, rfl, rfl, rfl⟩
                                · intro w61 hE
                                  rintro _ rfl
                                  rintro _ rfl
                                  rintro _ rfl
                                  intro R
                                  refine WL.take rfl ?_
                                  refine WL.rem (r := (((X : Nat) : Int).tmod (xm.getD i 0))) rfl rfl (by omega) rfl rfl ?_
                                  exact WL.done ⟨_, rfl, rfl, rfl⟩
                              · intro vals w62 hT hVs
                                have hB := ext_trans hB hT
                                have hv0 : vals 0 = _ := hVs 0 (by decide)
                                have hv1 : vals 1 = _ := hVs 1 (by decide)
                                have hv2 : vals 2 = _ := hVs 2 (by decide)
                                have hv3 : vals 3 = _ := hVs 3 (by decide)
                                have hv4 : vals 4 = _ := hVs 4 (by decide)
                                have hv5 : vals 5 = _ := hVs 5 (by decide)
                                have hv6 : vals 6 = _ := hVs 6 (by decide)
                                have hv7 : vals 7 = _ := hVs 7 (by decide)
                                rw [show (List.filterMap (fun i => Option.map (fun t => (t, vals i)) (dstAt _ i)) (List.range _)) = [(88, .bool true), (89, .bool true), (90, .int .i64 Z), (91, .int .i64 (xm.getD i 0)), (92, .int .i64 (Z.tmod (xm.getD i 0))), (93, .int .i64 ((X : Nat) : Int)), (94, .int .i64 (xm.getD i 0)), (95, .int .i64 (((X : Nat) : Int).tmod (xm.getD i 0)))] from by
                                  show [(88, vals 0), (89, vals 1), (90, vals 2), (91, vals 3), (92, vals 4), (93, vals 5), (94, vals 6), (95, vals 7)] = _
                                  rw [hv0, hv1, hv2, hv3, hv4, hv5, hv6, hv7]]
                                refine WA.step [8] (by decide +kernel) rfl ?_
                                intro iQ hQ
                                simp only [List.mem_cons, List.not_mem_nil, or_false] at hQ
                                obtain rfl := hQ
                                · refine ⟨_, rfl, ?_⟩
                                  refine WL.take rfl ?_
                                  refine WL.eql rfl rfl rfl (fun c63 => ?_) (fun c63 => ?_)
                                  · refine WL.done ?_
                                    refine WA.step [9] (by decide +kernel) rfl ?_
                                    intro iQ hQ
                                    simp only [List.mem_cons, List.not_mem_nil, or_false] at hQ
                                    obtain rfl := hQ
                                    · refine ⟨_, rfl, ?_⟩
                                      refine WL.pick rfl rfl rfl ?_
                                      refine WL.done ?_
                                      refine WA.step [10] (by decide +kernel) rfl ?_
                                      intro iQ hQ
                                      simp only [List.mem_cons, List.not_mem_nil, or_false] at hQ
                                      obtain rfl := hQ
                                      · refine ⟨_, rfl, ?_⟩
                                        refine WL.assign rfl rfl ?_
                                        refine WL.done ?_
                                        refine WA.done (by decide +kernel) ?_
                                        refine W.region ?_
                                        refine WL.add (r := ((i + 1 : Nat) : Int)) rfl rfl (wi64 (by omega) (by omega) (by omega)) rfl ?_
                                        refine WL.move rfl rfl ?_
                                        refine WL.done ?_
                                        refine ⟨(i + 1, true), ⟨rfl, rfl, iv (by omega), iv (by omega), iv (by omega), rfl, rfl, iv (by omega), iv (by omega), trivial⟩, by (dsimp only; omega), ?_⟩
                                        exact ⟨hB, by omega, fun h => by
                                          first
                                          | (cases h; done)
                                          | (have h3 := hb rfl
                                             exact ⟨h3.1, fun j hj => (by
                                              rcases Nat.lt_succ_iff_lt_or_eq.1 hj with h1 | h1
                                              · exact h3.2 j h1
                                              · rw [h1]; assumption)⟩)⟩
                                  · refine WL.done ?_
                                    refine WA.step [9] (by decide +kernel) rfl ?_
                                    intro iQ hQ
                                    simp only [List.mem_cons, List.not_mem_nil, or_false] at hQ
                                    obtain rfl := hQ
                                    · refine ⟨_, rfl, ?_⟩
                                      refine WL.pick rfl rfl rfl ?_
                                      refine WL.done ?_
                                      refine WA.step [10] (by decide +kernel) rfl ?_
                                      intro iQ hQ
                                      simp only [List.mem_cons, List.not_mem_nil, or_false] at hQ
                                      obtain rfl := hQ
                                      · refine ⟨_, rfl, ?_⟩
                                        refine WL.assign rfl rfl ?_
                                        refine WL.done ?_
                                        refine WA.done (by decide +kernel) ?_
                                        refine W.region ?_
                                        refine WL.add (r := ((i + 1 : Nat) : Int)) rfl rfl (wi64 (by omega) (by omega) (by omega)) rfl ?_
                                        refine WL.move rfl rfl ?_
                                        refine WL.done ?_
                                        refine ⟨(i + 1, false), ⟨rfl, rfl, iv (by omega), iv (by omega), iv (by omega), rfl, rfl, iv (by omega), iv (by omega), trivial⟩, by (dsimp only; omega), ?_⟩
                                        exact ⟨hB, by omega, fun h => by
                                          first
                                          | (cases h; done)
                                          | (have h3 := hb rfl
                                             exact ⟨h3.1, fun j hj => (by
                                              rcases Nat.lt_succ_iff_lt_or_eq.1 hj with h1 | h1
                                              · exact h3.2 j h1
                                              · rw [h1]; assumption)⟩)⟩
                      · refine WL.done ?_
                        refine W.seq ?_
                        refine W.condF rfl ?_
                        refine W.exit ?_
                        refine W.seq ?_
                        refine W.region ?_
                        refine WL.move rfl rfl ?_
                        refine WL.not rfl rfl ?_
                        refine WL.assign rfl rfl ?_
                        refine WL.done ?_
                        refine W.ret ?_
                        refine ⟨_, rfl, ?_⟩
                        first
                        | exact ⟨rfl, hB⟩
                        | (cases b
                           · exact ⟨rfl, hB⟩
                           · exact absurd (hk.uniq Z (hb rfl).1.1 (hb rfl).1.2.1 (fun j hj => (hb rfl).2 j (by omega))) (hb rfl).1.2.2)
                  · refine WL.pick rfl rfl rfl ?_
                    refine WL.assign rfl rfl ?_
                    refine WL.done ?_
                    refine W.seq ?_
                    refine W.seq ?_
                    refine W.region ?_
                    refine WL.move rfl rfl ?_
                    refine WL.len Try.underlying29 rfl rfl ?_
                    refine WL.move rfl rfl ?_
                    refine WL.done ?_
                    refine W.block ?_
                    refine W.loop (σ := Nat × Bool) (fun s w1 => match s with | (i, b) => w.grownBy w1 none ∧ i ≤ mm ∧ (b = true → (0 ≤ Z ∧ Z < Q ∧ Z ≠ X) ∧ ∀ j, j < i → Z.tmod (xm.getD j 0) = (X : Int).tmod (xm.getD j 0))) (fun s => match s with | (i, b) => [(0, .slice Ar mr cr), (1, .slice Am mm cm), (2, .int .i64 Z), (7, .int .i64 ((X : Nat) : Int)), (8, .int .i64 ((Q : Nat) : Int)), (10, .bool b), (67, .slice Am mm cm), (68, .int .i64 ((mm : Nat) : Int)), (69, .int .i64 ((i : Nat) : Int))]) (fun s => match s with | (i, b) => mm - i) (0, false) ?_ ?_ ?_
                    · exact ⟨hB, by omega, fun h => by first | exact ⟨⟨by omega, by omega, by omega⟩, fun j h => by omega⟩ | cases h⟩
                    · exact ⟨rfl, rfl, iv (by omega), iv (by omega), iv (by omega), rfl, rfl, iv (by omega), iv (by omega), trivial⟩
                    · rintro ⟨i, b⟩ w64 ⟨hB, hi, hb⟩
                      have hr := hr0.ext hB
                      have hm := hm0.ext hB
                      refine W.seq ?_
                      refine W.region ?_
                      refine WL.lss rfl rfl rfl (fun c65 => ?_) (fun c65 => ?_)
                      · refine WL.done ?_
                        refine W.seq ?_
                        refine W.condT rfl ?_
                        refine W.skip ?_
                        refine W.seq ?_
                        refine W.block ?_
                        refine W.seq ?_
                        have hil : i < xm.length := (by omega); have hmr := hk.rng _ (imem hil); have hka := hk.all i hil; have hmt : (((xm.getD i 0).toNat : Nat) : Int) = xm.getD i 0 := (by omega); have hIi := hIr.getD i; have hrn := Int.emod_nonneg (xr.getD i 0) (show xm.getD i 0 ≠ 0 by omega); have hxt : (X : Int).tmod (xm.getD i 0) = (((xr.getD i 0) % (((xm.getD i 0).toNat : Nat) : Int)).toNat : Nat) := (by rw [Int.tmod_eq_emod_of_nonneg (by omega), hmt, hka]; omega)
                        · refine W.region ?_
                          refine WL.move rfl rfl ?_
                          refine WL.index1 (i) Try.underlying29 Try.el3 rfl rfl (by omega) (by omega) hm rfl ?_
                          refine WL.load Try.underlying3 rfl rfl (Rd.at_ hm (is_at (by omega))) rfl ?_
                          refine WL.assign rfl rfl ?_
                          refine WL.assign rfl rfl ?_
                          refine WL.done ?_
                          refine W.seq ?_
                          refine W.seq ?_
                          refine W.draw [⟨[], [12], true⟩, ⟨[0], [], true⟩, ⟨[1], [], true⟩, ⟨[2], [7], true⟩, ⟨[2], [12], true⟩, ⟨[2, 3, 4], [], true⟩, ⟨[2], [0], true⟩, ⟨[2], [11], true⟩, ⟨[2, 6, 7], [], true⟩, ⟨[2, 8], [], false⟩, ⟨[2], [12], true⟩, ⟨[2, 9, 10], [], false⟩, ⟨[2, 5, 11], [], true⟩, ⟨[2, 12], [], true⟩] [[(12, .int .i64 (xm.getD i 0))], [], [], [(7, .int .i64 ((X : Nat) : Int))], [(12, .int .i64 (xm.getD i 0))], [], [(0, .slice Ar mr cr)], [(11, .int .i64 ((i : Nat) : Int))], [], [], [(12, .int .i64 (xm.getD i 0))], [], [], []] (fun iQ => [fun v wQ => v = .int .i64 (xm.getD i 0), fun v _ => v = .bool false, fun v wQ => v = .bool false, fun v wQ => v = .int .i64 ((X : Nat) : Int), fun v wQ => v = .int .i64 (xm.getD i 0), fun v wQ => v = .int .i64 (((((xr.getD i 0) % (((xm.getD i 0).toNat : Nat) : Int)).toNat) : Nat) : Int), fun v wQ => v = .slice Ar mr cr, fun v wQ => v = .int .i64 ((i : Nat) : Int), fun v wQ => v = .pointer (some ((adOf Ar).add i)), fun v wQ => v = .int .i64 (xr.getD i 0), fun v wQ => v = .int .i64 (xm.getD i 0), fun v wQ => v = .int .i64 (((((xr.getD i 0) % (((xm.getD i 0).toNat : Nat) : Int)).toNat) : Nat) : Int), fun v wQ => v = .bool false, fun v wQ => v = .bool false].getD iQ (fun _ _ => True)) (fun _ => True) 14 Try.mixed (by kernel_rfl) ?_ ?_ ?_
                          · refine Vs_mono _ ?_
                            intro VQ hVQ vQ wQ1 wQ2 hQ1 hQ2
                            have hQ2 := hQ2.resolve_right (by decide)
                            simp only [List.mem_cons, List.not_mem_nil, or_false] at hVQ
                            rcases hVQ with rfl | rfl | rfl | rfl | rfl | rfl | rfl | rfl | rfl | rfl | rfl | rfl | rfl | rfl
                            · exact hQ1
                            · exact hQ1
                            · exact hQ1
                            · exact hQ1
                            · exact hQ1
                            · exact hQ1
                            · exact hQ1
                            · exact hQ1
                            · exact hQ1
                            · exact hQ1
                            · exact hQ1
                            · exact hQ1
                            · exact hQ1
                            · exact hQ1
                          · refine ⟨⟨rfl, ⟨rfl, trivial⟩, ?_⟩, ⟨rfl, trivial, ?_⟩, ⟨rfl, trivial, ?_⟩, ⟨rfl, ⟨rfl, trivial⟩, ?_⟩, ⟨rfl, ⟨rfl, trivial⟩, ?_⟩, ⟨rfl, trivial, ?_⟩, ⟨rfl, ⟨rfl, trivial⟩, ?_⟩, ⟨rfl, ⟨rfl, trivial⟩, ?_⟩, ⟨rfl, trivial, ?_⟩, ⟨rfl, trivial, ?_⟩, ⟨rfl, ⟨rfl, trivial⟩, ?_⟩, ⟨rfl, trivial, ?_⟩, ⟨rfl, trivial, ?_⟩, ⟨rfl, trivial, ?_⟩, trivial⟩
                            · intro w66 hE
                              intro R
                              refine WL.move rfl rfl ?_
                              exact WL.done ⟨_, rfl, rfl, rfl⟩
                            · intro w67 hE
                              rintro _ rfl
                              intro R
                              refine WL.lssD rfl rfl rfl ?_
                              exact WL.done ⟨_, rfl, rfl, (dec_f (by omega))⟩
                            · intro w68 hE
                              rintro _ rfl
                              intro R
                              refine WL.move rfl rfl ?_
                              exact WL.done ⟨_, rfl, rfl, rfl⟩
                            · intro w69 hE
                              rintro _ rfl
                              intro R
                              refine WL.take rfl ?_
                              refine WL.move rfl rfl ?_
                              exact WL.done ⟨_, rfl, rfl, rfl⟩
                            · intro w70 hE
                              rintro _ rfl
                              intro R
                              refine WL.take rfl ?_
                              refine WL.move rfl rfl ?_
                              exact WL.done ⟨_, rfl, rfl, rfl⟩
                            · intro w71 hE
                              rintro _ rfl
                              rintro _ rfl
                              rintro _ rfl
                              intro R
                              refine WL.take rfl ?_
                              refine WL.rem (r := (((((xr.getD i 0) % (((xm.getD i 0).toNat : Nat) : Int)).toNat) : Nat) : Int)) rfl rfl (by omega) hxt rfl ?_
                              exact WL.done ⟨_, rfl, rfl, rfl⟩
                            · intro w72 hE
                              rintro _ rfl
                              intro R
                              refine WL.take rfl ?_
                              refine WL.move rfl rfl ?_
                              exact WL.done ⟨_, rfl, rfl, rfl⟩
                            · intro w73 hE
                              rintro _ rfl
                              intro R
                              refine WL.take rfl ?_
                              refine WL.move rfl rfl ?_
                              exact WL.done ⟨_, rfl, rfl, rfl⟩
                            · intro w74 hE
                              rintro _ rfl
                              rintro _ rfl
                              rintro _ rfl
                              intro R
                              refine WL.take rfl ?_
                              refine WL.index1 (i) Try.underlying29 Try.el3 rfl rfl (by omega) (by omega) hr rfl ?_
                              exact WL.done ⟨_, rfl, rfl, rfl⟩
                            · intro w75 hE
                              have hE := hE rfl
                              have hB := ext_trans hB hE
                              have hr := hr0.ext hB
                              rintro _ rfl
                              rintro _ rfl
                              intro R
                              refine WL.take rfl ?_
                              refine WL.load Try.underlying3 rfl rfl (Rd.at_ hr (is_at (by omega))) rfl ?_
                              exact WL.done ⟨_, rfl, ext_refl _, rfl⟩
                            · intro w76 hE
                              rintro _ rfl
                              intro R
                              refine WL.take rfl ?_
                              refine WL.move rfl rfl ?_
                              exact WL.done ⟨_, rfl, rfl, rfl⟩
                            · intro w77 hE
                              have hE := hE rfl
                              have hB := ext_trans hB hE
                              rintro _ rfl
                              rintro _ rfl
                              rintro _ rfl
                              intro R
                              refine WL.take rfl ?_
                              refine WL.call Try.func38 rfl Try.nm38 rfl rfl (rMod_c (by omega) (xm.getD i 0).toNat (by omega) (by omega) (by omega)) ?_
                              rintro _ w78 ⟨rfl, hGw78⟩
                              have hB := ext_trans hB hGw78
                              exact WL.done ⟨_, rfl, hGw78, rfl⟩
                            · intro w79 hE
                              rintro _ rfl
                              rintro _ rfl
                              rintro _ rfl
                              intro R
                              refine WL.take rfl ?_
                              refine WL.neqD rfl rfl rfl ?_
                              rw [show decide ((((((xr.getD i 0) % (((xm.getD i 0).toNat : Nat) : Int)).toNat) : Nat) : Int) ≠ (((((xr.getD i 0) % (((xm.getD i 0).toNat : Nat) : Int)).toNat) : Nat) : Int)) = false from decide_eq_false (fun h => h rfl)]
                              exact WL.done ⟨_, rfl, rfl, rfl⟩
                            · intro w80 hE
                              rintro _ rfl
                              rintro _ rfl
                              intro R
                              refine WL.pick rfl rfl rfl ?_
                              exact WL.done ⟨_, rfl, rfl, rfl⟩
                          · intro vals w81 hT hVs
                            rw [if_neg (by decide)] at hT
                            have hB := ext_trans hB hT
                            have hv0 : vals 0 = _ := hVs 0 (by decide) (by decide)
                            have hv1 : vals 1 = _ := hVs 1 (by decide) (by decide)
                            have hv2 : vals 2 = _ := hVs 2 (by decide) (by decide)
                            have hv3 : vals 3 = _ := hVs 3 (by decide) (by decide)
                            have hv4 : vals 4 = _ := hVs 4 (by decide) (by decide)
                            have hv5 : vals 5 = _ := hVs 5 (by decide) (by decide)
                            have hv6 : vals 6 = _ := hVs 6 (by decide) (by decide)
                            have hv7 : vals 7 = _ := hVs 7 (by decide) (by decide)
                            have hv8 : vals 8 = _ := hVs 8 (by decide) (by decide)
                            have hv9 : vals 9 = _ := hVs 9 (by decide) (by decide)
                            have hv10 : vals 10 = _ := hVs 10 (by decide) (by decide)
                            have hv11 : vals 11 = _ := hVs 11 (by decide) (by decide)
                            have hv12 : vals 12 = _ := hVs 12 (by decide) (by decide)
                            have hv13 : vals 13 = _ := hVs 13 (by decide) (by decide)
                            rw [show (List.filterMap (fun i => Option.map (fun t => (t, vals i)) (dstAt _ i)) (List.range _)) = [(74, .int .i64 (xm.getD i 0)), (75, .bool false), (76, .bool false), (77, .int .i64 ((X : Nat) : Int)), (78, .int .i64 (xm.getD i 0)), (79, .int .i64 (((((xr.getD i 0) % (((xm.getD i 0).toNat : Nat) : Int)).toNat) : Nat) : Int)), (80, .slice Ar mr cr), (81, .int .i64 ((i : Nat) : Int)), (82, .pointer (some ((adOf Ar).add i))), (83, .int .i64 (xr.getD i 0)), (84, .int .i64 (xm.getD i 0)), (85, .int .i64 (((((xr.getD i 0) % (((xm.getD i 0).toNat : Nat) : Int)).toNat) : Nat) : Int)), (86, .bool false), (87, .bool false)] from by
                              show [(74, vals 0), (75, vals 1), (76, vals 2), (77, vals 3), (78, vals 4), (79, vals 5), (80, vals 6), (81, vals 7), (82, vals 8), (83, vals 9), (84, vals 10), (85, vals 11), (86, vals 12), (87, vals 13)] = _
                              rw [hv0, hv1, hv2, hv3, hv4, hv5, hv6, hv7, hv8, hv9, hv10, hv11, hv12, hv13]]
                            refine W.condF rfl ?_
                            refine W.skip ?_
                            rcases b with _ | _
                            · refine W.drawT 8 [⟨[], [10], true⟩, ⟨[0], [], true⟩, ⟨[1], [2], true⟩, ⟨[1], [12], true⟩, ⟨[1, 2, 3], [], true⟩, ⟨[1], [7], true⟩, ⟨[1], [12], true⟩, ⟨[1, 5, 6], [], true⟩] [[(10, .bool false)], [], [(2, .int .i64 Z)], [(12, .int .i64 (xm.getD i 0))], [], [(7, .int .i64 ((X : Nat) : Int))], [(12, .int .i64 (xm.getD i 0))], []] (fun iQ => [fun v wQ => v = .bool false, fun v wQ => v = .bool false, fun v wQ => v = undef, fun v wQ => v = undef, fun v wQ => v = undef, fun v wQ => v = undef, fun v wQ => v = undef, fun v wQ => v = undef].getD iQ (fun _ _ => True)) Try.mixed (by kernel_rfl) ?_ ?_ ?_
                              · refine Vs_monoT _ ?_
                                intro VQ hVQ vQ wQ1 wQ2 hQ1 hQ2
                                simp only [List.mem_cons, List.not_mem_nil, or_false] at hVQ
                                rcases hVQ with rfl | rfl | rfl | rfl | rfl | rfl | rfl | rfl
                                · exact hQ1
                                · exact hQ1
                                · exact hQ1
                                · exact hQ1
                                · exact hQ1
                                · exact hQ1
                                · exact hQ1
                                · exact hQ1
                              · refine ⟨⟨rfl, ⟨rfl, trivial⟩, ?_⟩, ⟨rfl, trivial, ?_⟩, ⟨rfl, ⟨rfl, trivial⟩, ?_⟩, ⟨rfl, ⟨rfl, trivial⟩, ?_⟩, ⟨rfl, trivial, ?_⟩, ⟨rfl, ⟨rfl, trivial⟩, ?_⟩, ⟨rfl, ⟨rfl, trivial⟩, ?_⟩, ⟨rfl, trivial, ?_⟩, trivial⟩
                                · intro w83 hE
                                  intro R
                                  refine WL.move rfl rfl ?_
                                  exact WL.done ⟨_, rfl, rfl, rfl⟩
                                · intro w84 hE
                                  rintro _ rfl
                                  intro R
                                  refine WL.move rfl rfl ?_
                                  exact WL.done ⟨_, rfl, rfl, rfl⟩
                                · intro w85 hE
                                  rintro _ rfl
                                  intro R
                                  refine WL.pass rfl rfl rfl ?_
                                  exact WL.done ⟨_, rfl, rfl, rfl⟩
                                · intro w86 hE
                                  rintro _ rfl
                                  intro R
                                  refine WL.pass rfl rfl rfl ?_
                                  exact WL.done ⟨_, rfl, rfl, rfl⟩
                                · intro w87 hE
                                  rintro _ rfl
                                  rintro _ rfl
                                  rintro _ rfl
                                  intro R
                                  refine WL.pass rfl rfl rfl ?_
                                  exact WL.done ⟨_, rfl, rfl, rfl⟩
                                · intro w88 hE
                                  rintro _ rfl
                                  intro R
                                  refine WL.pass rfl rfl rfl ?_
                                  exact WL.done ⟨_, rfl, rfl, rfl⟩
                                · intro w89 hE
                                  rintro _ rfl
                                  intro R
                                  refine WL.pass rfl rfl rfl ?_
                                  exact WL.done ⟨_, rfl, rfl, rfl⟩
                                · intro w90 hE
                                  rintro _ rfl
                                  rintro _ rfl
                                  rintro _ rfl
                                  intro R
                                  refine WL.pass rfl rfl rfl ?_
                                  exact WL.done ⟨_, rfl, rfl, rfl⟩
                              · intro vals w91 hT hVs
                                have hB := ext_trans hB hT
                                have hv0 : vals 0 = _ := hVs 0 (by decide)
                                have hv1 : vals 1 = _ := hVs 1 (by decide)
                                have hv2 : vals 2 = _ := hVs 2 (by decide)
                                have hv3 : vals 3 = _ := hVs 3 (by decide)
                                have hv4 : vals 4 = _ := hVs 4 (by decide)
                                have hv5 : vals 5 = _ := hVs 5 (by decide)
                                have hv6 : vals 6 = _ := hVs 6 (by decide)
                                have hv7 : vals 7 = _ := hVs 7 (by decide)
                                rw [show (List.filterMap (fun i => Option.map (fun t => (t, vals i)) (dstAt _ i)) (List.range _)) = [(88, .bool false), (89, .bool false), (90, undef), (91, undef), (92, undef), (93, undef), (94, undef), (95, undef)] from by
                                  show [(88, vals 0), (89, vals 1), (90, vals 2), (91, vals 3), (92, vals 4), (93, vals 5), (94, vals 6), (95, vals 7)] = _
                                  rw [hv0, hv1, hv2, hv3, hv4, hv5, hv6, hv7]]
                                refine WA.step [8] (by decide +kernel) rfl ?_
                                intro iQ hQ
                                simp only [List.mem_cons, List.not_mem_nil, or_false] at hQ
                                obtain rfl := hQ
                                · refine ⟨_, rfl, ?_⟩
                                  refine WL.pass rfl rfl rfl ?_
                                  refine WL.done ?_
                                  refine WA.step [9] (by decide +kernel) rfl ?_
                                  intro iQ hQ
                                  simp only [List.mem_cons, List.not_mem_nil, or_false] at hQ
                                  obtain rfl := hQ
                                  · refine ⟨_, rfl, ?_⟩
                                    refine WL.pick rfl rfl rfl ?_
                                    refine WL.done ?_
                                    refine WA.step [10] (by decide +kernel) rfl ?_
                                    intro iQ hQ
                                    simp only [List.mem_cons, List.not_mem_nil, or_false] at hQ
                                    obtain rfl := hQ
                                    · refine ⟨_, rfl, ?_⟩
                                      refine WL.assign rfl rfl ?_
                                      refine WL.done ?_
                                      refine WA.done (by decide +kernel) ?_
                                      refine W.region ?_
                                      refine WL.add (r := ((i + 1 : Nat) : Int)) rfl rfl (wi64 (by omega) (by omega) (by omega)) rfl ?_
                                      refine WL.move rfl rfl ?_
                                      refine WL.done ?_
                                      refine ⟨(i + 1, false), ⟨rfl, rfl, iv (by omega), iv (by omega), iv (by omega), rfl, rfl, iv (by omega), iv (by omega), trivial⟩, by (dsimp only; omega), ?_⟩
                                      exact ⟨hB, by omega, fun h => by
                                        first
                                        | (cases h; done)
                                        | (have h3 := hb rfl
                                           exact ⟨h3.1, fun j hj => (by
                                            rcases Nat.lt_succ_iff_lt_or_eq.1 hj with h1 | h1
                                            · exact h3.2 j h1
                                            · rw [h1]; assumption)⟩)⟩
                            · refine W.drawT 8 [⟨[], [10], true⟩, ⟨[0], [], true⟩, ⟨[1], [2], true⟩, ⟨[1], [12], true⟩, ⟨[1, 2, 3], [], true⟩, ⟨[1], [7], true⟩, ⟨[1], [12], true⟩, ⟨[1, 5, 6], [], true⟩] [[(10, .bool true)], [], [(2, .int .i64 Z)], [(12, .int .i64 (xm.getD i 0))], [], [(7, .int .i64 ((X : Nat) : Int))], [(12, .int .i64 (xm.getD i 0))], []] (fun iQ => [fun v wQ => v = .bool true, fun v wQ => v = .bool true, fun v wQ => v = .int .i64 Z, fun v wQ => v = .int .i64 (xm.getD i 0), fun v wQ => v = .int .i64 (Z.tmod (xm.getD i 0)), fun v wQ => v = .int .i64 ((X : Nat) : Int), fun v wQ => v = .int .i64 (xm.getD i 0), fun v wQ => v = .int .i64 (((X : Nat) : Int).tmod (xm.getD i 0))].getD iQ (fun _ _ => True)) Try.mixed (by kernel_rfl) ?_ ?_ ?_
                              · refine Vs_monoT _ ?_
                                intro VQ hVQ vQ wQ1 wQ2 hQ1 hQ2
                                simp only [List.mem_cons, List.not_mem_nil, or_false] at hVQ
                                rcases hVQ with rfl | rfl | rfl | rfl | rfl | rfl | rfl | rfl
                                · exact hQ1
                                · exact hQ1
                                · exact hQ1
                                · exact hQ1
                                · exact hQ1
                                · exact hQ1
                                · exact hQ1
                                · exact hQ1
                              · refine ⟨⟨rfl, ⟨rfl, trivial⟩, ?_⟩, ⟨rfl, trivial, ?_⟩, ⟨rfl, ⟨rfl, trivial⟩, ?_⟩, ⟨rfl, ⟨rfl, trivial⟩, ?_⟩, ⟨rfl, trivial, ?_⟩, ⟨rfl, ⟨rfl, trivial⟩, ?_⟩, ⟨rfl, ⟨rfl, trivial⟩, ?_⟩, ⟨rfl, trivial, ?_⟩, trivial⟩
                                · intro w92 hE
                                  intro R
                                  refine WL.move rfl rfl ?_
                                  exact WL.done ⟨_, rfl, rfl, rfl⟩
                                · intro w93 hE
                                  rintro _ rfl
                                  intro R
                                  refine WL.move rfl rfl ?_
                                  exact WL.done ⟨_, rfl, rfl, rfl⟩
                                · intro w94 hE
                                  rintro _ rfl
                                  intro R
                                  refine WL.take rfl ?_
                                  refine WL.move rfl rfl ?_
                                  exact WL.done ⟨_, rfl, rfl, rfl⟩
                                · intro w95 hE
                                  rintro _ rfl
                                  intro R
                                  refine WL.take rfl ?_
                                  refine WL.move rfl rfl ?_
                                  exact WL.done ⟨_, rfl, rfl, rfl⟩
                                · intro w96 hE
                                  rintro _ rfl
                                  rintro _ rfl
                                  rintro _ rfl
                                  intro R
                                  refine WL.take rfl ?_
                                  refine WL.rem (r := (Z.tmod (xm.getD i 0))) rfl rfl (by omega) rfl rfl ?_
                                  exact WL.done ⟨_, rfl, rfl, rfl⟩
                                · intro w97 hE
                                  rintro _ rfl
                                  intro R
                                  refine WL.take rfl ?_
                                  refine WL.move rfl rfl ?_
                                  exact WL.done ⟨_, rfl, rfl, rfl⟩
                                · intro w98 hE
                                  rintro _ rfl
                                  intro R
                                  refine WL.take rfl ?_
                                  refine WL.move rfl rfl ?_
                                  exact WL.done ⟨_, rfl, rfl, rfl⟩
                                · intro w99 hE
                                  rintro _ rfl
                                  rintro _ rfl
                                  rintro _ rfl
                                  intro R
                                  refine WL.take rfl ?_
                                  refine WL.rem (r := (((X : Nat) : Int).tmod (xm.getD i 0))) rfl rfl (by omega) rfl rfl ?_
                                  exact WL.done ⟨_, rfl, rfl, rfl⟩
                              · intro vals w100 hT hVs
                                have hB := ext_trans hB hT
                                have hv0 : vals 0 = _ := hVs 0 (by decide)
                                have hv1 : vals 1 = _ := hVs 1 (by decide)
                                have hv2 : vals 2 = _ := hVs 2 (by decide)
                                have hv3 : vals 3 = _ := hVs 3 (by decide)
                                have hv4 : vals 4 = _ := hVs 4 (by decide)
                                have hv5 : vals 5 = _ := hVs 5 (by decide)
                                have hv6 : vals 6 = _ := hVs 6 (by decide)
                                have hv7 : vals 7 = _ := hVs 7 (by decide)
                                rw [show (List.filterMap (fun i => Option.map (fun t => (t, vals i)) (dstAt _ i)) (List.range _)) = [(88, .bool true), (89, .bool true), (90, .int .i64 Z), (91, .int .i64 (xm.getD i 0)), (92, .int .i64 (Z.tmod (xm.getD i 0))), (93, .int .i64 ((X : Nat) : Int)), (94, .int .i64 (xm.getD i 0)), (95, .int .i64 (((X : Nat) : Int).tmod (xm.getD i 0)))] from by
                                  show [(88, vals 0), (89, vals 1), (90, vals 2), (91, vals 3), (92, vals 4), (93, vals 5), (94, vals 6), (95, vals 7)] = _
                                  rw [hv0, hv1, hv2, hv3, hv4, hv5, hv6, hv7]]
                                refine WA.step [8] (by decide +kernel) rfl ?_
                                intro iQ hQ
                                simp only [List.mem_cons, List.not_mem_nil, or_false] at hQ
                                obtain rfl := hQ
                                · refine ⟨_, rfl, ?_⟩
                                  refine WL.take rfl ?_
                                  refine WL.eql rfl rfl rfl (fun c101 => ?_) (fun c101 => ?_)
                                  · refine WL.done ?_
                                    refine WA.step [9] (by decide +kernel) rfl ?_
                                    intro iQ hQ
                                    simp only [List.mem_cons, List.not_mem_nil, or_false] at hQ
                                    obtain rfl := hQ
                                    · refine ⟨_, rfl, ?_⟩
                                      refine WL.pick rfl rfl rfl ?_
                                      refine WL.done ?_
                                      refine WA.step [10] (by decide +kernel) rfl ?_
                                      intro iQ hQ
                                      simp only [List.mem_cons, List.not_mem_nil, or_false] at hQ
                                      obtain rfl := hQ
                                      · refine ⟨_, rfl, ?_⟩
                                        refine WL.assign rfl rfl ?_
                                        refine WL.done ?_
                                        refine WA.done (by decide +kernel) ?_
                                        refine W.region ?_
                                        refine WL.add (r := ((i + 1 : Nat) : Int)) rfl rfl (wi64 (by omega) (by omega) (by omega)) rfl ?_
                                        refine WL.move rfl rfl ?_
                                        refine WL.done ?_
                                        refine ⟨(i + 1, true), ⟨rfl, rfl, iv (by omega), iv (by omega), iv (by omega), rfl, rfl, iv (by omega), iv (by omega), trivial⟩, by (dsimp only; omega), ?_⟩
                                        exact ⟨hB, by omega, fun h => by
                                          first
                                          | (cases h; done)
                                          | (have h3 := hb rfl
                                             exact ⟨h3.1, fun j hj => (by
                                              rcases Nat.lt_succ_iff_lt_or_eq.1 hj with h1 | h1
                                              · exact h3.2 j h1
                                              · rw [h1]; assumption)⟩)⟩
                                  · refine WL.done ?_
                                    refine WA.step [9] (by decide +kernel) rfl ?_
                                    intro iQ hQ
                                    simp only [List.mem_cons, List.not_mem_nil, or_false] at hQ
                                    obtain rfl := hQ
                                    · refine ⟨_, rfl, ?_⟩
                                      refine WL.pick rfl rfl rfl ?_
                                      refine WL.done ?_
                                      refine WA.step [10] (by decide +kernel) rfl ?_
                                      intro iQ hQ
                                      simp only [List.mem_cons, List.not_mem_nil, or_false] at hQ
                                      obtain rfl := hQ
                                      · refine ⟨_, rfl, ?_⟩
                                        refine WL.assign rfl rfl ?_
                                        refine WL.done ?_
                                        refine WA.done (by decide +kernel) ?_
                                        refine W.region ?_
                                        refine WL.add (r := ((i + 1 : Nat) : Int)) rfl rfl (wi64 (by omega) (by omega) (by omega)) rfl ?_
                                        refine WL.move rfl rfl ?_
                                        refine WL.done ?_
                                        refine ⟨(i + 1, false), ⟨rfl, rfl, iv (by omega), iv (by omega), iv (by omega), rfl, rfl, iv (by omega), iv (by omega), trivial⟩, by (dsimp only; omega), ?_⟩
                                        exact ⟨hB, by omega, fun h => by
                                          first
                                          | (cases h; done)
                                          | (have h3 := hb rfl
                                             exact ⟨h3.1, fun j hj => (by
                                              rcases Nat.lt_succ_iff_lt_or_eq.1 hj with h1 | h1
                                              · exact h3.2 j h1
                                              · rw [h1]; assumption)⟩)⟩
                      · refine WL.done ?_
                        refine W.seq ?_
                        refine W.condF rfl ?_
                        refine W.exit ?_
                        refine W.seq ?_
                        refine W.region ?_
                        refine WL.move rfl rfl ?_
                        refine WL.not rfl rfl ?_
                        refine WL.assign rfl rfl ?_
                        refine WL.done ?_
                        refine W.ret ?_
                        refine ⟨_, rfl, ?_⟩
                        first
                        | exact ⟨rfl, hB⟩
                        | (cases b
                           · exact ⟨rfl, hB⟩
                           · exact absurd (hk.uniq Z (hb rfl).1.1 (hb rfl).1.2.1 (fun j hj => (hb rfl).2 j (by omega))) (hb rfl).1.2.2)
                · refine WL.pick rfl rfl rfl ?_
                  refine WL.move rfl rfl ?_
                  refine WL.pass rfl rfl rfl ?_
                  refine WL.pass rfl rfl rfl ?_
                  refine WL.pass rfl rfl rfl ?_
                  refine WL.pick rfl rfl rfl ?_
                  refine WL.assign rfl rfl ?_
                  refine WL.done ?_
                  refine W.seq ?_
                  refine W.seq ?_
                  refine W.region ?_
                  refine WL.move rfl rfl ?_
                  refine WL.len Try.underlying29 rfl rfl ?_
                  refine WL.move rfl rfl ?_
                  refine WL.done ?_
                  refine W.block ?_
                  refine W.loop (σ := Nat × Bool) (fun s w1 => match s with | (i, b) => w.grownBy w1 none ∧ i ≤ mm ∧ (b = true → (0 ≤ Z ∧ Z < Q ∧ Z ≠ X) ∧ ∀ j, j < i → Z.tmod (xm.getD j 0) = (X : Int).tmod (xm.getD j 0))) (fun s => match s with | (i, b) => [(0, .slice Ar mr cr), (1, .slice Am mm cm), (2, .int .i64 Z), (7, .int .i64 ((X : Nat) : Int)), (8, .int .i64 ((Q : Nat) : Int)), (10, .bool b), (67, .slice Am mm cm), (68, .int .i64 ((mm : Nat) : Int)), (69, .int .i64 ((i : Nat) : Int))]) (fun s => match s with | (i, b) => mm - i) (0, false) ?_ ?_ ?_
                  · exact ⟨hB, by omega, fun h => by first | exact ⟨⟨by omega, by omega, by omega⟩, fun j h => by omega⟩ | cases h⟩
                  · exact ⟨rfl, rfl, iv (by omega), iv (by omega), iv (by omega), rfl, rfl, iv (by omega), iv (by omega), trivial⟩
                  · rintro ⟨i, b⟩ w102 ⟨hB, hi, hb⟩
                    have hr := hr0.ext hB
                    have hm := hm0.ext hB
                    refine W.seq ?_
                    refine W.region ?_
                    refine WL.lss rfl rfl rfl (fun c103 => ?_) (fun c103 => ?_)
                    · refine WL.done ?_
                      refine W.seq ?_
                      refine W.condT rfl ?_
                      refine W.skip ?_
                      refine W.seq ?_
                      refine W.block ?_
                      refine W.seq ?_
                      have hil : i < xm.length := (by omega); have hmr := hk.rng _ (imem hil); have hka := hk.all i hil; have hmt : (((xm.getD i 0).toNat : Nat) : Int) = xm.getD i 0 := (by omega); have hIi := hIr.getD i; have hrn := Int.emod_nonneg (xr.getD i 0) (show xm.getD i 0 ≠ 0 by omega); have hxt : (X : Int).tmod (xm.getD i 0) = (((xr.getD i 0) % (((xm.getD i 0).toNat : Nat) : Int)).toNat : Nat) := (by rw [Int.tmod_eq_emod_of_nonneg (by omega), hmt, hka]; omega)
                      · refine W.region ?_
                        refine WL.move rfl rfl ?_
                        refine WL.index1 (i) Try.underlying29 Try.el3 rfl rfl (by omega) (by omega) hm rfl ?_
                        refine WL.load Try.underlying3 rfl rfl (Rd.at_ hm (is_at (by omega))) rfl ?_
                        refine WL.assign rfl rfl ?_
                        refine WL.assign rfl rfl ?_
                        refine WL.done ?_
                        refine W.seq ?_
                        refine W.seq ?_
                        refine W.draw [⟨[], [12], true⟩, ⟨[0], [], true⟩, ⟨[1], [], true⟩, ⟨[2], [7], true⟩, ⟨[2], [12], true⟩, ⟨[2, 3, 4], [], true⟩, ⟨[2], [0], true⟩, ⟨[2], [11], true⟩, ⟨[2, 6, 7], [], true⟩, ⟨[2, 8], [], false⟩, ⟨[2], [12], true⟩, ⟨[2, 9, 10], [], false⟩, ⟨[2, 5, 11], [], true⟩, ⟨[2, 12], [], true⟩] [[(12, .int .i64 (xm.getD i 0))], [], [], [(7, .int .i64 ((X : Nat) : Int))], [(12, .int .i64 (xm.getD i 0))], [], [(0, .slice Ar mr cr)], [(11, .int .i64 ((i : Nat) : Int))], [], [], [(12, .int .i64 (xm.getD i 0))], [], [], []] (fun iQ => [fun v wQ => v = .int .i64 (xm.getD i 0), fun v _ => v = .bool false, fun v wQ => v = .bool false, fun v wQ => v = .int .i64 ((X : Nat) : Int), fun v wQ => v = .int .i64 (xm.getD i 0), fun v wQ => v = .int .i64 (((((xr.getD i 0) % (((xm.getD i 0).toNat : Nat) : Int)).toNat) : Nat) : Int), fun v wQ => v = .slice Ar mr cr, fun v wQ => v = .int .i64 ((i : Nat) : Int), fun v wQ => v = .pointer (some ((adOf Ar).add i)), fun v wQ => v = .int .i64 (xr.getD i 0), fun v wQ => v = .int .i64 (xm.getD i 0), fun v wQ => v = .int .i64 (((((xr.getD i 0) % (((xm.getD i 0).toNat : Nat) : Int)).toNat) : Nat) : Int), fun v wQ => v = .bool false, fun v wQ => v = .bool false].getD iQ (fun _ _ => True)) (fun _ => True) 14 Try.mixed (by kernel_rfl) ?_ ?_ ?_
                        · refine Vs_mono _ ?_
                          intro VQ hVQ vQ wQ1 wQ2 hQ1 hQ2
                          have hQ2 := hQ2.resolve_right (by decide)
                          simp only [List.mem_cons, List.not_mem_nil, or_false] at hVQ
                          rcases hVQ with rfl | rfl | rfl | rfl | rfl | rfl | rfl | rfl | rfl | rfl | rfl | rfl | rfl | rfl
                          · exact hQ1
                          · exact hQ1
                          · exact hQ1
                          · exact hQ1
                          · exact hQ1
                          · exact hQ1
                          · exact hQ1
                          · exact hQ1
                          · exact hQ1
                          · exact hQ1
                          · exact hQ1
                          · exact hQ1
                          · exact hQ1
                          · exact hQ1
                        · refine ⟨⟨rfl, ⟨rfl, trivial⟩, ?_⟩, ⟨rfl, trivial, ?_⟩, ⟨rfl, trivial, ?_⟩, ⟨rfl, ⟨rfl, trivial⟩, ?_⟩, ⟨rfl, ⟨rfl, trivial⟩, ?_⟩, ⟨rfl, trivial, ?_⟩, ⟨rfl, ⟨rfl, trivial⟩, ?_⟩, ⟨rfl, ⟨rfl, trivial⟩, ?_⟩, ⟨rfl, trivial, ?_⟩, ⟨rfl, trivial, ?_⟩, ⟨rfl, ⟨rfl, trivial⟩, ?_⟩, ⟨rfl, trivial, ?_⟩, ⟨rfl, trivial, ?_⟩, ⟨rfl, trivial, ?_⟩, trivial⟩
                          · intro w104 hE
                            intro R
                            refine WL.move rfl rfl ?_
                            exact WL.done ⟨_, rfl, rfl, rfl⟩
                          · intro w105 hE
                            rintro _ rfl
                            intro R
                            refine WL.lssD rfl rfl rfl ?_
                            exact WL.done ⟨_, rfl, rfl, (dec_f (by omega))⟩
                          · intro w106 hE
                            rintro _ rfl
                            intro R
                            refine WL.move rfl rfl ?_
                            exact WL.done ⟨_, rfl, rfl, rfl⟩
                          · intro w107 hE
                            rintro _ rfl
                            intro R
                            refine WL.take rfl ?_
                            refine WL.move rfl rfl ?_
                            exact WL.done ⟨_, rfl, rfl, rfl⟩
                          · intro w108 hE
                            rintro _ rfl
                            intro R
                            refine WL.take rfl ?_
                            refine WL.move rfl rfl ?_
                            exact WL.done ⟨_, rfl, rfl, rfl⟩
                          · intro w109 hE
                            rintro _ rfl
                            rintro _ rfl
                            rintro _ rfl
                            intro R
                            refine WL.take rfl ?_
                            refine WL.rem (r := (((((xr.getD i 0) % (((xm.getD i 0).toNat : Nat) : Int)).toNat) : Nat) : Int)) rfl rfl (by omega) hxt rfl ?_
                            exact WL.done ⟨_, rfl, rfl, rfl⟩
                          · intro w110 hE
                            rintro _ rfl
                            intro R
                            refine WL.take rfl ?_
                            refine WL.move rfl rfl ?_
                            exact WL.done ⟨_, rfl, rfl, rfl⟩
                          · intro w111 hE
                            rintro _ rfl
                            intro R
                            refine WL.take rfl ?_
                            refine WL.move rfl rfl ?_
                            exact WL.done ⟨_, rfl, rfl, rfl⟩
                          · intro w112 hE
                            rintro _ rfl
                            rintro _ rfl
                            rintro _ rfl
                            intro R
                            refine WL.take rfl ?_
                            refine WL.index1 (i) Try.underlying29 Try.el3 rfl rfl (by omega) (by omega) hr rfl ?_
                            exact WL.done ⟨_, rfl, rfl, rfl⟩
                          · intro w113 hE
                            have hE := hE rfl
                            have hB := ext_trans hB hE
                            have hr := hr0.ext hB
                            rintro _ rfl
                            rintro _ rfl
                            intro R
                            refine WL.take rfl ?_
                            refine WL.load Try.underlying3 rfl rfl (Rd.at_ hr (is_at (by omega))) rfl ?_
                            exact WL.done ⟨_, rfl, ext_refl _, rfl⟩
                          · intro w114 hE
                            rintro _ rfl
                            intro R
                            refine WL.take rfl ?_
                            refine WL.move rfl rfl ?_
                            exact WL.done ⟨_, rfl, rfl, rfl⟩
                          · intro w115 hE
                            have hE := hE rfl
                            have hB := ext_trans hB hE
                            rintro _ rfl
                            rintro _ rfl
                            rintro _ rfl
                            intro R
                            refine WL.take rfl ?_
                            refine WL.call Try.func38 rfl Try.nm38 rfl rfl (rMod_c (by omega) (xm.getD i 0).toNat (by omega) (by omega) (by omega)) ?_
                            rintro _ w116 ⟨rfl, hGw116⟩
                            have hB := ext_trans hB hGw116
                            exact WL.done ⟨_, rfl, hGw116, rfl⟩
                          · intro w117 hE
                            rintro _ rfl
                            rintro _ rfl
                            rintro _ rfl
                            intro R
                            refine WL.take rfl ?_
                            refine WL.neqD rfl rfl rfl ?_
                            rw [show decide ((((((xr.getD i 0) % (((xm.getD i 0).toNat : Nat) : Int)).toNat) : Nat) : Int) ≠ (((((xr.getD i 0) % (((xm.getD i 0).toNat : Nat) : Int)).toNat) : Nat) : Int)) = false from decide_eq_false (fun h => h rfl)]
                            exact WL.done ⟨_, rfl, rfl, rfl⟩
                          · intro w118 hE
                            rintro _ rfl
                            rintro _ rfl
                            intro R
                            refine WL.pick rfl rfl rfl ?_
                            exact WL.done ⟨_, rfl, rfl, rfl⟩
                        · intro vals w119 hT hVs
                          rw [if_neg (by decide)] at hT
                          have hB := ext_trans hB hT
                          have hv0 : vals 0 = _ := hVs 0 (by decide) (by decide)
                          have hv1 : vals 1 = _ := hVs 1 (by decide) (by decide)
                          have hv2 : vals 2 = _ := hVs 2 (by decide) (by decide)
                          have hv3 : vals 3 = _ := hVs 3 (by decide) (by decide)
                          have hv4 : vals 4 = _ := hVs 4 (by decide) (by decide)
                          have hv5 : vals 5 = _ := hVs 5 (by decide) (by decide)
                          have hv6 : vals 6 = _ := hVs 6 (by decide) (by decide)
                          have hv7 : vals 7 = _ := hVs 7 (by decide) (by decide)
                          have hv8 : vals 8 = _ := hVs 8 (by decide) (by decide)
                          have hv9 : vals 9 = _ := hVs 9 (by decide) (by decide)
                          have hv10 : vals 10 = _ := hVs 10 (by decide) (by decide)
                          have hv11 : vals 11 = _ := hVs 11 (by decide) (by decide)
                          have hv12 : vals 12 = _ := hVs 12 (by decide) (by decide)
                          have hv13 : vals 13 = _ := hVs 13 (by decide) (by decide)
                          rw [show (List.filterMap (fun i => Option.map (fun t => (t, vals i)) (dstAt _ i)) (List.range _)) = [(74, .int .i64 (xm.getD i 0)), (75, .bool false), (76, .bool false), (77, .int .i64 ((X : Nat) : Int)), (78, .int .i64 (xm.getD i 0)), (79, .int .i64 (((((xr.getD i 0) % (((xm.getD i 0).toNat : Nat) : Int)).toNat) : Nat) : Int)), (80, .slice Ar mr cr), (81, .int .i64 ((i : Nat) : Int)), (82, .pointer (some ((adOf Ar).add i))), (83, .int .i64 (xr.getD i 0)), (84, .int .i64 (xm.getD i 0)), (85, .int .i64 (((((xr.getD i 0) % (((xm.getD i 0).toNat : Nat) : Int)).toNat) : Nat) : Int)), (86, .bool false), (87, .bool false)] from by
                            show [(74, vals 0), (75, vals 1), (76, vals 2), (77, vals 3), (78, vals 4), (79, vals 5), (80, vals 6), (81, vals 7), (82, vals 8), (83, vals 9), (84, vals 10), (85, vals 11), (86, vals 12), (87, vals 13)] = _
                            rw [hv0, hv1, hv2, hv3, hv4, hv5, hv6, hv7, hv8, hv9, hv10, hv11, hv12, hv13]]
                          refine W.condF rfl ?_
                          refine W.skip ?_
                          rcases b with _ | _
                          · refine W.drawT 8 [⟨[], [10], true⟩, ⟨[0], [], true⟩, ⟨[1], [2], true⟩, ⟨[1], [12], true⟩, ⟨[1, 2, 3], [], true⟩, ⟨[1], [7], true⟩, ⟨[1], [12], true⟩, ⟨[1, 5, 6], [], true⟩] [[(10, .bool false)], [], [(2, .int .i64 Z)], [(12, .int .i64 (xm.getD i 0))], [], [(7, .int .i64 ((X : Nat) : Int))], [(12, .int .i64 (xm.getD i 0))], []] (fun iQ => [fun v wQ => v = .bool false, fun v wQ => v = .bool false, fun v wQ => v = undef, fun v wQ => v = undef, fun v wQ => v = undef, fun v wQ => v = undef, fun v wQ => v = undef, fun v wQ => v = undef].getD iQ (fun _ _ => True)) Try.mixed (by kernel_rfl) ?_ ?_ ?_
                            · refine Vs_monoT _ ?_
                              intro VQ hVQ vQ wQ1 wQ2 hQ1 hQ2
                              simp only [List.mem_cons, List.not_mem_nil, or_false] at hVQ
                              rcases hVQ with rfl | rfl | rfl | rfl | rfl | rfl | rfl | rfl
                              · exact hQ1
                              · exact hQ1
                              · exact hQ1
                              · exact hQ1
                              · exact hQ1
                              · exact hQ1
                              · exact hQ1
                              · exact hQ1
                            · refine ⟨⟨rfl, ⟨rfl, trivial⟩, ?_⟩, ⟨rfl, trivial, ?_⟩, ⟨rfl, ⟨rfl, trivial⟩, ?_⟩, ⟨rfl, ⟨rfl, trivial⟩, ?_⟩, ⟨rfl, trivial, ?_⟩, ⟨rfl, ⟨rfl, trivial⟩, ?_⟩, ⟨rfl, ⟨rfl, trivial⟩, ?_⟩, ⟨rfl, trivial, ?_⟩, trivial⟩
                              · intro w121 hE
                                intro R
                                refine WL.move rfl rfl ?_
                                exact WL.done ⟨_, rfl, rfl, rfl⟩
                              · intro w122 hE
                                rintro _ rfl
                                intro R
                                refine WL.move rfl rfl ?_
                                exact WL.done ⟨_, rfl, rfl, rfl⟩
                              · intro w123 hE
                                rintro _ rfl
                                intro R
                                refine WL.pass rfl rfl rfl ?_
                                exact WL.done ⟨_, rfl, rfl, rfl⟩
                              · intro w124 hE
                                rintro _ rfl
                                intro R
                                refine WL.pass rfl rfl rfl ?_
                                exact WL.done ⟨_, rfl, rfl, rfl⟩
                              · intro w125 hE
                                rintro _ rfl
                                rintro _ rfl
                                rintro _ rfl
                                intro R
                                refine WL.pass rfl rfl rfl ?_
                                exact WL.done ⟨_, rfl, rfl, rfl⟩
                              · intro w126 hE
                                rintro _ rfl
                                intro R
                                refine WL.pass rfl rfl rfl ?_
                                exact WL.done ⟨_, rfl, rfl, rfl⟩
                              · intro w127 hE
                                rintro _ rfl
                                intro R
                                refine WL.pass rfl rfl rfl ?_
                                exact WL.done ⟨_, rfl, rfl, rfl⟩
                              · intro w128 hE
                                rintro _ rfl
                                rintro _ rfl
                                rintro _ rfl
                                intro R
                                refine WL.pass rfl rfl rfl ?_
                                exact WL.done ⟨_, rfl, rfl, rfl⟩
                            · intro vals w129 hT hVs
                              have hB := ext_trans hB hT
                              have hv0 : vals 0 = _ := hVs 0 (by decide)
                              have hv1 : vals 1 = _ := hVs 1 (by decide)
                              have hv2 : vals 2 = _ := hVs 2 (by decide)
                              have hv3 : vals 3 = _ := hVs 3 (by decide)
                              have hv4 : vals 4 = _ := hVs 4 (by decide)
                              have hv5 : vals 5 = _ := hVs 5 (by decide)
                              have hv6 : vals 6 = _ := hVs 6 (by decide)
                              have hv7 : vals 7 = _ := hVs 7 (by decide)
                              rw [show (List.filterMap (fun i => Option.map (fun t => (t, vals i)) (dstAt _ i)) (List.range _)) = [(88, .bool false), (89, .bool false), (90, undef), (91, undef), (92, undef), (93, undef), (94, undef), (95, undef)] from by
                                show [(88, vals 0), (89, vals 1), (90, vals 2), (91, vals 3), (92, vals 4), (93, vals 5), (94, vals 6), (95, vals 7)] = _
                                rw [hv0, hv1, hv2, hv3, hv4, hv5, hv6, hv7]]
                              refine WA.step [8] (by decide +kernel) rfl ?_
                              intro iQ hQ
                              simp only [List.mem_cons, List.not_mem_nil, or_false] at hQ
                              obtain rfl := hQ
                              · refine ⟨_, rfl, ?_⟩
                                refine WL.pass rfl rfl rfl ?_
                                refine WL.done ?_
                                refine WA.step [9] (by decide +kernel) rfl ?_
                                intro iQ hQ
                                simp only [List.mem_cons, List.not_mem_nil, or_false] at hQ
                                obtain rfl := hQ
                                · refine ⟨_, rfl, ?_⟩
                                  refine WL.pick rfl rfl rfl ?_
                                  refine WL.done ?_
                                  refine WA.step [10] (by decide +kernel) rfl ?_
                                  intro iQ hQ
                                  simp only [List.mem_cons, List.not_mem_nil, or_false] at hQ
                                  obtain rfl := hQ
                                  · refine ⟨_, rfl, ?_⟩
                                    refine WL.assign rfl rfl ?_
                                    refine WL.done ?_
                                    refine WA.done (by decide +kernel) ?_
                                    refine W.region ?_
                                    refine WL.add (r := ((i + 1 : Nat) : Int)) rfl rfl (wi64 (by omega) (by omega) (by omega)) rfl ?_
                                    refine WL.move rfl rfl ?_
                                    refine WL.done ?_
                                    refine ⟨(i + 1, false), ⟨rfl, rfl, iv (by omega), iv (by omega), iv (by omega), rfl, rfl, iv (by omega), iv (by omega), trivial⟩, by (dsimp only; omega), ?_⟩
                                    exact ⟨hB, by omega, fun h => by
                                      first
                                      | (cases h; done)
                                      | (have h3 := hb rfl
                                         exact ⟨h3.1, fun j hj => (by
                                          rcases Nat.lt_succ_iff_lt_or_eq.1 hj with h1 | h1
                                          · exact h3.2 j h1
                                          · rw [h1]; assumption)⟩)⟩
                          · refine W.drawT 8 [⟨[], [10], true⟩, ⟨[0], [], true⟩, ⟨[1], [2], true⟩, ⟨[1], [12], true⟩, ⟨[1, 2, 3], [], true⟩, ⟨[1], [7], true⟩, ⟨[1], [12], true⟩, ⟨[1, 5, 6], [], true⟩] [[(10, .bool true)], [], [(2, .int .i64 Z)], [(12, .int .i64 (xm.getD i 0))], [], [(7, .int .i64 ((X : Nat) : Int))], [(12, .int .i64 (xm.getD i 0))], []] (fun iQ => [fun v wQ => v = .bool true, fun v wQ => v = .bool true, fun v wQ => v = .int .i64 Z, fun v wQ => v = .int .i64 (xm.getD i 0), fun v wQ => v = .int .i64 (Z.tmod (xm.getD i 0)), fun v wQ => v = .int .i64 ((X : Nat) : Int), fun v wQ => v = .int .i64 (xm.getD i 0), fun v wQ => v = .int .i64 (((X : Nat) : Int).tmod (xm.getD i 0))].getD iQ (fun _ _ => True)) Try.mixed (by kernel_rfl) ?_ ?_ ?_
                            · refine Vs_monoT _ ?_
                              intro VQ hVQ vQ wQ1 wQ2 hQ1 hQ2
                              simp only [List.mem_cons, List.not_mem_nil, or_false] at hVQ
                              rcases hVQ with rfl | rfl | rfl | rfl | rfl | rfl | rfl | rfl
                              · exact hQ1
                              · exact hQ1
                              · exact hQ1
                              · exact hQ1
                              · exact hQ1
                              · exact hQ1
                              · exact hQ1
                              · exact hQ1
                            · refine ⟨⟨rfl, ⟨rfl, trivial⟩, ?_⟩, ⟨rfl, trivial, ?_⟩, ⟨rfl, ⟨rfl, trivial⟩, ?_⟩, ⟨rfl, ⟨rfl, trivial⟩, ?_⟩, ⟨rfl, trivial, ?_⟩, ⟨rfl, ⟨rfl, trivial⟩, ?_⟩, ⟨rfl, ⟨rfl, trivial⟩, ?_⟩, ⟨rfl, trivial, ?_⟩, trivial⟩
                              · intro w130 hE
                                intro R
                                refine WL.move rfl rfl ?_
                                exact WL.done ⟨_, rfl, rfl, rfl⟩
                              · intro w131 hE
                                rintro _ rfl
                                intro R
                                refine WL.move rfl rfl ?_
                                exact WL.done ⟨_, rfl, rfl, rfl⟩
                              · intro w132 hE
                                rintro _ rfl
                                intro R
                                refine WL.take rfl ?_
                                refine WL.move rfl rfl ?_
                                exact WL.done ⟨_, rfl, rfl, rfl⟩
                              · intro w133 hE
                                rintro _ rfl
                                intro R
                                refine WL.take rfl ?_
                                refine WL.move rfl rfl ?_
                                exact WL.done ⟨_, rfl, rfl, rfl⟩
                              · intro w134 hE
                                rintro _ rfl
                                rintro _ rfl
                                rintro _ rfl
                                intro R
                                refine WL.take rfl ?_
                                refine WL.rem (r := (Z.tmod (xm.getD i 0))) rfl rfl (by omega) rfl rfl ?_
                                exact WL.done ⟨_, rfl, rfl, rfl⟩
                              · intro w135 hE
                                rintro _ rfl
                                intro R
                                refine WL.take rfl ?_
                                refine WL.move rfl rfl ?_
                                exact WL.done ⟨_, rfl, rfl, rfl⟩
                              · intro w136 hE
                                rintro _ rfl
                                intro R
                                refine WL.take rfl ?_
                                refine WL.move rfl rfl ?_
                                exact WL.done ⟨_, rfl, rfl, rfl⟩
                              · intro w137 hE
                                rintro _ rfl
                                rintro _ rfl
                                rintro _ rfl
                                intro R
                                refine WL.take rfl ?_
                                refine WL.rem (r := (((X : Nat) : Int).tmod (xm.getD i 0))) rfl rfl (by omega) rfl rfl ?_
                                exact WL.done ⟨_, rfl, rfl, rfl⟩
                            · intro vals w138 hT hVs
                              have hB := ext_trans hB hT
                              have hv0 : vals 0 = _ := hVs 0 (by decide)
                              have hv1 : vals 1 = _ := hVs 1 (by decide)
                              have hv2 : vals 2 = _ := hVs 2 (by decide)
                              have hv3 : vals 3 = _ := hVs 3 (by decide)
                              have hv4 : vals 4 = _ := hVs 4 (by decide)
                              have hv5 : vals 5 = _ := hVs 5 (by decide)
                              have hv6 : vals 6 = _ := hVs 6 (by decide)
                              have hv7 : vals 7 = _ := hVs 7 (by decide)
                              rw [show (List.filterMap (fun i => Option.map (fun t => (t, vals i)) (dstAt _ i)) (List.range _)) = [(88, .bool true), (89, .bool true), (90, .int .i64 Z), (91, .int .i64 (xm.getD i 0)), (92, .int .i64 (Z.tmod (xm.getD i 0))), (93, .int .i64 ((X : Nat) : Int)), (94, .int .i64 (xm.getD i 0)), (95, .int .i64 (((X : Nat) : Int).tmod (xm.getD i 0)))] from by
                                show [(88, vals 0), (89, vals 1), (90, vals 2), (91, vals 3), (92, vals 4), (93, vals 5), (94, vals 6), (95, vals 7)] = _
                                rw [hv0, hv1, hv2, hv3, hv4, hv5, hv6, hv7]]
                              refine WA.step [8] (by decide +kernel) rfl ?_
                              intro iQ hQ
                              simp only [List.mem_cons, List.not_mem_nil, or_false] at hQ
                              obtain rfl := hQ
                              · refine ⟨_, rfl, ?_⟩
                                refine WL.take rfl ?_
                                refine WL.eql rfl rfl rfl (fun c139 => ?_) (fun c139 => ?_)
                                · refine WL.done ?_
                                  refine WA.step [9] (by decide +kernel) rfl ?_
                                  intro iQ hQ
                                  simp only [List.mem_cons, List.not_mem_nil, or_false] at hQ
                                  obtain rfl := hQ
                                  · refine ⟨_, rfl, ?_⟩
                                    refine WL.pick rfl rfl rfl ?_
                                    refine WL.done ?_
                                    refine WA.step [10] (by decide +kernel) rfl ?_
                                    intro iQ hQ
                                    simp only [List.mem_cons, List.not_mem_nil, or_false] at hQ
                                    obtain rfl := hQ
                                    · refine ⟨_, rfl, ?_⟩
                                      refine WL.assign rfl rfl ?_
                                      refine WL.done ?_
                                      refine WA.done (by decide +kernel) ?_
                                      refine W.region ?_
                                      refine WL.add (r := ((i + 1 : Nat) : Int)) rfl rfl (wi64 (by omega) (by omega) (by omega)) rfl ?_
                                      refine WL.move rfl rfl ?_
                                      refine WL.done ?_
                                      refine ⟨(i + 1, true), ⟨rfl, rfl, iv (by omega), iv (by omega), iv (by omega), rfl, rfl, iv (by omega), iv (by omega), trivial⟩, by (dsimp only; omega), ?_⟩
                                      exact ⟨hB, by omega, fun h => by
                                        first
                                        | (cases h; done)
                                        | (have h3 := hb rfl
                                           exact ⟨h3.1, fun j hj => (by
                                            rcases Nat.lt_succ_iff_lt_or_eq.1 hj with h1 | h1
                                            · exact h3.2 j h1
                                            · rw [h1]; assumption)⟩)⟩
                                · refine WL.done ?_
                                  refine WA.step [9] (by decide +kernel) rfl ?_
                                  intro iQ hQ
                                  simp only [List.mem_cons, List.not_mem_nil, or_false] at hQ
                                  obtain rfl := hQ
                                  · refine ⟨_, rfl, ?_⟩
                                    refine WL.pick rfl rfl rfl ?_
                                    refine WL.done ?_
                                    refine WA.step [10] (by decide +kernel) rfl ?_
                                    intro iQ hQ
                                    simp only [List.mem_cons, List.not_mem_nil, or_false] at hQ
                                    obtain rfl := hQ
                                    · refine ⟨_, rfl, ?_⟩
                                      refine WL.assign rfl rfl ?_
                                      refine WL.done ?_
                                      refine WA.done (by decide +kernel) ?_
                                      refine W.region ?_
                                      refine WL.add (r := ((i + 1 : Nat) : Int)) rfl rfl (wi64 (by omega) (by omega) (by omega)) rfl ?_
                                      refine WL.move rfl rfl ?_
                                      refine WL.done ?_
                                      refine ⟨(i + 1, false), ⟨rfl, rfl, iv (by omega), iv (by omega), iv (by omega), rfl, rfl, iv (by omega), iv (by omega), trivial⟩, by (dsimp only; omega), ?_⟩
                                      exact ⟨hB, by omega, fun h => by
                                        first
                                        | (cases h; done)
                                        | (have h3 := hb rfl
                                           exact ⟨h3.1, fun j hj => (by
                                            rcases Nat.lt_succ_iff_lt_or_eq.1 hj with h1 | h1
                                            · exact h3.2 j h1
                                            · rw [h1]; assumption)⟩)⟩
                    · refine WL.done ?_
                      refine W.seq ?_
                      refine W.condF rfl ?_
                      refine W.exit ?_
                      refine W.seq ?_
                      refine W.region ?_
                      refine WL.move rfl rfl ?_
                      refine WL.not rfl rfl ?_
                      refine WL.assign rfl rfl ?_
                      refine WL.done ?_
                      refine W.ret ?_
                      refine ⟨_, rfl, ?_⟩
                      first
                      | exact ⟨rfl, hB⟩
                      | (cases b
                         · exact ⟨rfl, hB⟩
                         · exact absurd (hk.uniq Z (hb rfl).1.1 (hb rfl).1.2.1 (fun j hj => (hb rfl).2 j (by omega))) (hb rfl).1.2.2)
              · refine WL.move rfl rfl ?_
                refine WL.pass rfl rfl rfl ?_
                refine WL.pass rfl rfl rfl ?_
                refine WL.pass rfl rfl rfl ?_
                refine WL.pick rfl rfl rfl ?_
                refine WL.move rfl rfl ?_
                refine WL.pass rfl rfl rfl ?_
                refine WL.pass rfl rfl rfl ?_
                refine WL.pass rfl rfl rfl ?_
                refine WL.pick rfl rfl rfl ?_
                refine WL.assign rfl rfl ?_
                refine WL.done ?_
                refine W.seq ?_
                refine W.seq ?_
                refine W.region ?_
                refine WL.move rfl rfl ?_
                refine WL.len Try.underlying29 rfl rfl ?_
                refine WL.move rfl rfl ?_
                refine WL.done ?_
                refine W.block ?_
                refine W.loop (σ := Nat × Bool) (fun s w1 => match s with | (i, b) => w.grownBy w1 none ∧ i ≤ mm ∧ (b = true → (0 ≤ Z ∧ Z < Q ∧ Z ≠ X) ∧ ∀ j, j < i → Z.tmod (xm.getD j 0) = (X : Int).tmod (xm.getD j 0))) (fun s => match s with | (i, b) => [(0, .slice Ar mr cr), (1, .slice Am mm cm), (2, .int .i64 Z), (7, .int .i64 ((X : Nat) : Int)), (8, .int .i64 ((Q : Nat) : Int)), (10, .bool b), (67, .slice Am mm cm), (68, .int .i64 ((mm : Nat) : Int)), (69, .int .i64 ((i : Nat) : Int))]) (fun s => match s with | (i, b) => mm - i) (0, false) ?_ ?_ ?_
                · exact ⟨hB, by omega, fun h => by first | exact ⟨⟨by omega, by omega, by omega⟩, fun j h => by omega⟩ | cases h⟩
                · exact ⟨rfl, rfl, iv (by omega), iv (by omega), iv (by omega), rfl, rfl, iv (by omega), iv (by omega), trivial⟩
                · rintro ⟨i, b⟩ w140 ⟨hB, hi, hb⟩
                  have hr := hr0.ext hB
                  have hm := hm0.ext hB
                  refine W.seq ?_
                  refine W.region ?_
                  refine WL.lss rfl rfl rfl (fun c141 => ?_) (fun c141 => ?_)
                  · refine WL.done ?_
                    refine W.seq ?_
                    refine W.condT rfl ?_
                    refine W.skip ?_
                    refine W.seq ?_
                    refine W.block ?_
                    refine W.seq ?_
                    have hil : i < xm.length := (by omega); have hmr := hk.rng _ (imem hil); have hka := hk.all i hil; have hmt : (((xm.getD i 0).toNat : Nat) : Int) = xm.getD i 0 := (by omega); have hIi := hIr.getD i; have hrn := Int.emod_nonneg (xr.getD i 0) (show xm.getD i 0 ≠ 0 by omega); have hxt : (X : Int).tmod (xm.getD i 0) = (((xr.getD i 0) % (((xm.getD i 0).toNat : Nat) : Int)).toNat : Nat) := (by rw [Int.tmod_eq_emod_of_nonneg (by omega), hmt, hka]; omega)
                    · refine W.region ?_
                      refine WL.move rfl rfl ?_
                      refine WL.index1 (i) Try.underlying29 Try.el3 rfl rfl (by omega) (by omega) hm rfl ?_
                      refine WL.load Try.underlying3 rfl rfl (Rd.at_ hm (is_at (by omega))) rfl ?_
                      refine WL.assign rfl rfl ?_
                      refine WL.assign rfl rfl ?_
                      refine WL.done ?_
                      refine W.seq ?_
                      refine W.seq ?_
                      refine W.draw [⟨[], [12], true⟩, ⟨[0], [], true⟩, ⟨[1], [], true⟩, ⟨[2], [7], true⟩, ⟨[2], [12], true⟩, ⟨[2, 3, 4], [], true⟩, ⟨[2], [0], true⟩, ⟨[2], [11], true⟩, ⟨[2, 6, 7], [], true⟩, ⟨[2, 8], [], false⟩, ⟨[2], [12], true⟩, ⟨[2, 9, 10], [], false⟩, ⟨[2, 5, 11], [], true⟩, ⟨[2, 12], [], true⟩] [[(12, .int .i64 (xm.getD i 0))], [], [], [(7, .int .i64 ((X : Nat) : Int))], [(12, .int .i64 (xm.getD i 0))], [], [(0, .slice Ar mr cr)], [(11, .int .i64 ((i : Nat) : Int))], [], [], [(12, .int .i64 (xm.getD i 0))], [], [], []] (fun iQ => [fun v wQ => v = .int .i64 (xm.getD i 0), fun v _ => v = .bool false, fun v wQ => v = .bool false, fun v wQ => v = .int .i64 ((X : Nat) : Int), fun v wQ => v = .int .i64 (xm.getD i 0), fun v wQ => v = .int .i64 (((((xr.getD i 0) % (((xm.getD i 0).toNat : Nat) : Int)).toNat) : Nat) : Int), fun v wQ => v = .slice Ar mr cr, fun v wQ => v = .int .i64 ((i : Nat) : Int), fun v wQ => v = .pointer (some ((adOf Ar).add i)), fun v wQ => v = .int .i64 (xr.getD i 0), fun v wQ => v = .int .i64 (xm.getD i 0), fun v wQ => v = .int .i64 (((((xr.getD i 0) % (((xm.getD i 0).toNat : Nat) : Int)).toNat) : Nat) : Int), fun v wQ => v = .bool false, fun v wQ => v = .bool false].getD iQ (fun _ _ => True)) (fun _ => True) 14 Try.mixed (by kernel_rfl) ?_ ?_ ?_
                      · refine Vs_mono _ ?_
                        intro VQ hVQ vQ wQ1 wQ2 hQ1 hQ2
                        have hQ2 := hQ2.resolve_right (by decide)
                        simp only [List.mem_cons, List.not_mem_nil, or_false] at hVQ
                        rcases hVQ with rfl | rfl | rfl | rfl | rfl | rfl | rfl | rfl | rfl | rfl | rfl | rfl | rfl | rfl
                        · exact hQ1
                        · exact hQ1
                        · exact hQ1
                        · exact hQ1
                        · exact hQ1
                        · exact hQ1
                        · exact hQ1
                        · exact hQ1
                        · exact hQ1
                        · exact hQ1
                        · exact hQ1
                        · exact hQ1
                        · exact hQ1
                        · exact hQ1
                      · refine ⟨⟨rfl, ⟨rfl, trivial⟩, ?_⟩, ⟨rfl, trivial, ?_⟩, ⟨rfl, trivial, ?_⟩, ⟨rfl, ⟨rfl, trivial⟩, ?_⟩, ⟨rfl, ⟨rfl, trivial⟩, ?_⟩, ⟨rfl, trivial, ?_⟩, ⟨rfl, ⟨rfl, trivial⟩, ?_⟩, ⟨rfl, ⟨rfl, trivial⟩, ?_⟩, ⟨rfl, trivial, ?_⟩, ⟨rfl, trivial, ?_⟩, ⟨rfl, ⟨rfl, trivial⟩, ?_⟩, ⟨rfl, trivial, ?_⟩, ⟨rfl, trivial, ?_⟩, ⟨rfl, trivial, ?_⟩, trivial⟩
                        · intro w142 hE
                          intro R
                          refine WL.move rfl rfl ?_
                          exact WL.done ⟨_, rfl, rfl, rfl⟩
                        · intro w143 hE
                          rintro _ rfl
                          intro R
                          refine WL.lssD rfl rfl rfl ?_
                          exact WL.done ⟨_, rfl, rfl, (dec_f (by omega))⟩
                        · intro w144 hE
                          rintro _ rfl
                          intro R
                          refine WL.move rfl rfl ?_
                          exact WL.done ⟨_, rfl, rfl, rfl⟩
                        · intro w145 hE
                          rintro _ rfl
                          intro R
                          refine WL.take rfl ?_
                          refine WL.move rfl rfl ?_
                          exact WL.done ⟨_, rfl, rfl, rfl⟩
                        · intro w146 hE
                          rintro _ rfl
                          intro R
                          refine WL.take rfl ?_
                          refine WL.move rfl rfl ?_
                          exact WL.done ⟨_, rfl, rfl, rfl⟩
                        · intro w147 hE
                          rintro _ rfl
                          rintro _ rfl
                          rintro _ rfl
                          intro R
                          refine WL.take rfl ?_
                          refine WL.rem (r := (((((xr.getD i 0) % (((xm.getD i 0).toNat : Nat) : Int)).toNat) : Nat) : Int)) rfl rfl (by omega) hxt rfl ?_
                          exact WL.done ⟨_, rfl, rfl, rfl⟩
                        · intro w148 hE
                          rintro _ rfl
                          intro R
                          refine WL.take rfl ?_
                          refine WL.move rfl rfl ?_
                          exact WL.done ⟨_, rfl, rfl, rfl⟩
                        · intro w149 hE
                          rintro _ rfl
                          intro R
                          refine WL.take rfl ?_
                          refine WL.move rfl rfl ?_
                          exact WL.done ⟨_, rfl, rfl, rfl⟩
                        · intro w150 hE
                          rintro _ rfl
                          rintro _ rfl
                          rintro _ rfl
                          intro R
                          refine WL.take rfl ?_
                          refine WL.index1 (i) Try.underlying29 Try.el3 rfl rfl (by omega) (by omega) hr rfl ?_
                          exact WL.done ⟨_, rfl, rfl, rfl⟩
                        · intro w151 hE
                          have hE := hE rfl
                          have hB := ext_trans hB hE
                          have hr := hr0.ext hB
                          rintro _ rfl
                          rintro _ rfl
                          intro R
                          refine WL.take rfl ?_
                          refine WL.load Try.underlying3 rfl rfl (Rd.at_ hr (is_at (by omega))) rfl ?_
                          exact WL.done ⟨_, rfl, ext_refl _, rfl⟩
                        · intro w152 hE
                          rintro _ rfl
                          intro R
                          refine WL.take rfl ?_
                          refine WL.move rfl rfl ?_
                          exact WL.done ⟨_, rfl, rfl, rfl⟩
                        · intro w153 hE
                          have hE := hE rfl
                          have hB := ext_trans hB hE
                          rintro _ rfl
                          rintro _ rfl
                          rintro _ rfl
                          intro R
                          refine WL.take rfl ?_
                          refine WL.call Try.func38 rfl Try.nm38 rfl rfl (rMod_c (by omega) (xm.getD i 0).toNat (by omega) (by omega) (by omega)) ?_
                          rintro _ w154 ⟨rfl, hGw154⟩
                          have hB := ext_trans hB hGw154
                          exact WL.done ⟨_, rfl, hGw154, rfl⟩
                        · intro w155 hE
                          rintro _ rfl
                          rintro _ rfl
                          rintro _ rfl
                          intro R
                          refine WL.take rfl ?_
                          refine WL.neqD rfl rfl rfl ?_
                          rw [show decide ((((((xr.getD i 0) % (((xm.getD i 0).toNat : Nat) : Int)).toNat) : Nat) : Int) ≠ (((((xr.getD i 0) % (((xm.getD i 0).toNat : Nat) : Int)).toNat) : Nat) : Int)) = false from decide_eq_false (fun h => h rfl)]
                          exact WL.done ⟨_, rfl, rfl, rfl⟩
                        · intro w156 hE
                          rintro _ rfl
                          rintro _ rfl
                          intro R
                          refine WL.pick rfl rfl rfl ?_
                          exact WL.done ⟨_, rfl, rfl, rfl⟩
                      · intro vals w157 hT hVs
                        rw [if_neg (by decide)] at hT
                        have hB := ext_trans hB hT
                        have hv0 : vals 0 = _ := hVs 0 (by decide) (by decide)
                        have hv1 : vals 1 = _ := hVs 1 (by decide) (by decide)
                        have hv2 : vals 2 = _ := hVs 2 (by decide) (by decide)
                        have hv3 : vals 3 = _ := hVs 3 (by decide) (by decide)
                        have hv4 : vals 4 = _ := hVs 4 (by decide) (by decide)
                        have hv5 : vals 5 = _ := hVs 5 (by decide) (by decide)
                        have hv6 : vals 6 = _ := hVs 6 (by decide) (by decide)
                        have hv7 : vals 7 = _ := hVs 7 (by decide) (by decide)
                        have hv8 : vals 8 = _ := hVs 8 (by decide) (by decide)
                        have hv9 : vals 9 = _ := hVs 9 (by decide) (by decide)
                        have hv10 : vals 10 = _ := hVs 10 (by decide) (by decide)
                        have hv11 : vals 11 = _ := hVs 11 (by decide) (by decide)
                        have hv12 : vals 12 = _ := hVs 12 (by decide) (by decide)
                        have hv13 : vals 13 = _ := hVs 13 (by decide) (by decide)
                        rw [show (List.filterMap (fun i => Option.map (fun t => (t, vals i)) (dstAt _ i)) (List.range _)) = [(74, .int .i64 (xm.getD i 0)), (75, .bool false), (76, .bool false), (77, .int .i64 ((X : Nat) : Int)), (78, .int .i64 (xm.getD i 0)), (79, .int .i64 (((((xr.getD i 0) % (((xm.getD i 0).toNat : Nat) : Int)).toNat) : Nat) : Int)), (80, .slice Ar mr cr), (81, .int .i64 ((i : Nat) : Int)), (82, .pointer (some ((adOf Ar).add i))), (83, .int .i64 (xr.getD i 0)), (84, .int .i64 (xm.getD i 0)), (85, .int .i64 (((((xr.getD i 0) % (((xm.getD i 0).toNat : Nat) : Int)).toNat) : Nat) : Int)), (86, .bool false), (87, .bool false)] from by
                          show [(74, vals 0), (75, vals 1), (76, vals 2), (77, vals 3), (78, vals 4), (79, vals 5), (80, vals 6), (81, vals 7), (82, vals 8), (83, vals 9), (84, vals 10), (85, vals 11), (86, vals 12), (87, vals 13)] = _
                          rw [hv0, hv1, hv2, hv3, hv4, hv5, hv6, hv7, hv8, hv9, hv10, hv11, hv12, hv13]]
                        refine W.condF rfl ?_
                        refine W.skip ?_
                        rcases b with _ | _
                        · refine W.drawT 8 [⟨[], [10], true⟩, ⟨[0], [], true⟩, ⟨[1], [2], true⟩, ⟨[1], [12], true⟩, ⟨[1, 2, 3], [], true⟩, ⟨[1], [7], true⟩, ⟨[1], [12], true⟩, ⟨[1, 5, 6], [], true⟩] [[(10, .bool false)], [], [(2, .int .i64 Z)], [(12, .int .i64 (xm.getD i 0))], [], [(7, .int .i64 ((X : Nat) : Int))], [(12, .int .i64 (xm.getD i 0))], []] (fun iQ => [fun v wQ => v = .bool false, fun v wQ => v = .bool false, fun v wQ => v = undef, fun v wQ => v = undef, fun v wQ => v = undef, fun v wQ => v = undef, fun v wQ => v = undef, fun v wQ => v = undef].getD iQ (fun _ _ => True)) Try.mixed (by kernel_rfl) ?_ ?_ ?_
                          · refine Vs_monoT _ ?_
                            intro VQ hVQ vQ wQ1 wQ2 hQ1 hQ2
                            simp only [List.mem_cons, List.not_mem_nil, or_false] at hVQ
                            rcases hVQ with rfl | rfl | rfl | rfl | rfl | rfl | rfl | rfl
                            · exact hQ1
                            · exact hQ1
                            · exact hQ1
                            · exact hQ1
                            · exact hQ1
                            · exact hQ1
                            · exact hQ1
                            · exact hQ1
                          · refine ⟨⟨rfl, ⟨rfl, trivial⟩, ?_⟩, ⟨rfl, trivial, ?_⟩, ⟨rfl, ⟨rfl, trivial⟩, ?_⟩, ⟨rfl, ⟨rfl, trivial⟩, ?_⟩, ⟨rfl, trivial, ?_⟩, ⟨rfl, ⟨rfl, trivial⟩, ?_⟩, ⟨rfl, ⟨rfl, trivial⟩, ?_⟩, ⟨rfl, trivial, ?_⟩, trivial⟩
                            · intro w159 hE
                              intro R
                              refine WL.move rfl rfl ?_
                              exact WL.done ⟨_, rfl, rfl, rfl⟩
                            · intro w160 hE
                              rintro _ rfl
                              intro R
                              refine WL.move rfl rfl ?_
                              exact WL.done ⟨_, rfl, rfl, rfl⟩
                            · intro w161 hE
                              rintro _ rfl
                              intro R
                              refine WL.pass rfl rfl rfl ?_
                              exact WL.done ⟨_, rfl, rfl, rfl⟩
                            · intro w162 hE
                              rintro _ rfl
                              intro R
                              refine WL.pass rfl rfl rfl ?_
                              exact WL.done ⟨_, rfl, rfl, rfl⟩
                            · intro w163 hE
                              rintro _ rfl
                              rintro _ rfl
                              rintro _ rfl
                              intro R
                              refine WL.pass rfl rfl rfl ?_
                              exact WL.done ⟨_, rfl, rfl, rfl⟩
                            · intro w164 hE
                              rintro _ rfl
                              intro R
                              refine WL.pass rfl rfl rfl ?_
                              exact WL.done ⟨_, rfl, rfl, rfl⟩
                            · intro w165 hE
                              rintro _ rfl
                              intro R
                              refine WL.pass rfl rfl rfl ?_
                              exact WL.done ⟨_, rfl, rfl, rfl⟩
                            · intro w166 hE
                              rintro _ rfl
                              rintro _ rfl
                              rintro _ rfl
                              intro R
                              refine WL.pass rfl rfl rfl ?_
                              exact WL.done ⟨_, rfl, rfl, rfl⟩
                          · intro vals w167 hT hVs
                            have hB := ext_trans hB hT
                            have hv0 : vals 0 = _ := hVs 0 (by decide)
                            have hv1 : vals 1 = _ := hVs 1 (by decide)
                            have hv2 : vals 2 = _ := hVs 2 (by decide)
                            have hv3 : vals 3 = _ := hVs 3 (by decide)
                            have hv4 : vals 4 = _ := hVs 4 (by decide)
                            have hv5 : vals 5 = _ := hVs 5 (by decide)
                            have hv6 : vals 6 = _ := hVs 6 (by decide)
                            have hv7 : vals 7 = _ := hVs 7 (by decide)
                            rw [show (List.filterMap (fun i => Option.map (fun t => (t, vals i)) (dstAt _ i)) (List.range _)) = [(88, .bool false), (89, .bool false), (90, undef), (91, undef), (92, undef), (93, undef), (94, undef), (95, undef)] from by
                              show [(88, vals 0), (89, vals 1), (90, vals 2), (91, vals 3), (92, vals 4), (93, vals 5), (94, vals 6), (95, vals 7)] = _
                              rw [hv0, hv1, hv2, hv3, hv4, hv5, hv6, hv7]]
                            refine WA.step [8] (by decide +kernel) rfl ?_
                            intro iQ hQ
                            simp only [List.mem_cons, List.not_mem_nil, or_false] at hQ
                            obtain rfl := hQ
                            · refine ⟨_, rfl, ?_⟩
                              refine WL.pass rfl rfl rfl ?_
                              refine WL.done ?_
                              refine WA.step [9] (by decide +kernel) rfl ?_
                              intro iQ hQ
                              simp only [List.mem_cons, List.not_mem_nil, or_false] at hQ
                              obtain rfl := hQ
                              · refine ⟨_, rfl, ?_⟩
                                refine WL.pick rfl rfl rfl ?_
                                refine WL.done ?_
                                refine WA.step [10] (by decide +kernel) rfl ?_
                                intro iQ hQ
                                simp only [List.mem_cons, List.not_mem_nil, or_false] at hQ
                                obtain rfl := hQ
                                · refine ⟨_, rfl, ?_⟩
                                  refine WL.assign rfl rfl ?_
                                  refine WL.done ?_
                                  refine WA.done (by decide +kernel) ?_
                                  refine W.region ?_
                                  refine WL.add (r := ((i + 1 : Nat) : Int)) rfl rfl (wi64 (by omega) (by omega) (by omega)) rfl ?_
                                  refine WL.move rfl rfl ?_
                                  refine WL.done ?_
                                  refine ⟨(i + 1, false), ⟨rfl, rfl, iv (by omega), iv (by omega), iv (by omega), rfl, rfl, iv (by omega), iv (by omega), trivial⟩, by (dsimp only; omega), ?_⟩
                                  exact ⟨hB, by omega, fun h => by
                                    first
                                    | (cases h; done)
                                    | (have h3 := hb rfl
                                       exact ⟨h3.1, fun j hj => (by
                                        rcases Nat.lt_succ_iff_lt_or_eq.1 hj with h1 | h1
                                        · exact h3.2 j h1
                                        · rw [h1]; assumption)⟩)⟩
                        · refine W.drawT 8 [⟨[], [10], true⟩, ⟨[0], [], true⟩, ⟨[1], [2], true⟩, ⟨[1], [12], true⟩, ⟨[1, 2, 3], [], true⟩, ⟨[1], [7], true⟩, ⟨[1], [12], true⟩, ⟨[1, 5, 6], [], true⟩] [[(10, .bool true)], [], [(2, .int .i64 Z)], [(12, .int .i64 (xm.getD i 0))], [], [(7, .int .i64 ((X : Nat) : Int))], [(12, .int .i64 (xm.getD i 0))], []] (fun iQ => [fun v wQ => v = .bool true, fun v wQ => v = .bool true, fun v wQ => v = .int .i64 Z, fun v wQ => v = .int .i64 (xm.getD i 0), fun v wQ => v = .int .i64 (Z.tmod (xm.getD i 0)), fun v wQ => v = .int .i64 ((X : Nat) : Int), fun v wQ => v = .int .i64 (xm.getD i 0), fun v wQ => v = .int .i64 (((X : Nat) : Int).tmod (xm.getD i 0))].getD iQ (fun _ _ => True)) Try.mixed (by kernel_rfl) ?_ ?_ ?_
                          · refine Vs_monoT _ ?_
                            intro VQ hVQ vQ wQ1 wQ2 hQ1 hQ2
                            simp only [List.mem_cons, List.not_mem_nil, or_false] at hVQ
                            rcases hVQ with rfl | rfl | rfl | rfl | rfl | rfl | rfl | rfl
                            · exact hQ1
                            · exact hQ1
                            · exact hQ1
                            · exact hQ1
                            · exact hQ1
                            · exact hQ1
                            · exact hQ1
                            · exact hQ1
                          · refine ⟨⟨rfl, ⟨rfl, trivial⟩, ?_⟩, ⟨rfl, trivial, ?_⟩, ⟨rfl, ⟨rfl, trivial⟩, ?_⟩, ⟨rfl, ⟨rfl, trivial⟩, ?_⟩, ⟨rfl, trivial, ?_⟩, ⟨rfl, ⟨rfl, trivial⟩, ?_⟩, ⟨rfl, ⟨rfl, trivial⟩, ?_⟩, ⟨rfl, trivial, ?_⟩, trivial⟩
                            · intro w168 hE
                              intro R
                              refine WL.move rfl rfl ?_
                              exact WL.done ⟨_, rfl, rfl, rfl⟩
                            · intro w169 hE
                              rintro _ rfl
                              intro R
                              refine WL.move rfl rfl ?_
                              exact WL.done ⟨_, rfl, rfl, rfl⟩
                            · intro w170 hE
                              rintro _ rfl
                              intro R
                              refine WL.take rfl ?_
                              refine WL.move rfl rfl ?_
                              exact WL.done ⟨_, rfl, rfl, rfl⟩
                            · intro w171 hE
                              rintro _ rfl
                              intro R
                              refine WL.take rfl ?_
                              refine WL.move rfl rfl ?_
                              exact WL.done ⟨_, rfl, rfl, rfl⟩
                            · intro w172 hE
                              rintro _ rfl
                              rintro _ rfl
                              rintro _ rfl
                              intro R
                              refine WL.take rfl ?_
                              refine WL.rem (r := (Z.tmod (xm.getD i 0))) rfl rfl (by omega) rfl rfl ?_
                              exact WL.done ⟨_, rfl, rfl, rfl⟩
                            · intro w173 hE
                              rintro _ rfl
                              intro R
                              refine WL.take rfl ?_
                              refine WL.move rfl rfl ?_
                              exact WL.done ⟨_, rfl, rfl, rfl⟩
                            · intro w174 hE
                              rintro _ rfl
                              intro R
                              refine WL.take rfl ?_
                              refine WL.move rfl rfl ?_
                              exact WL.done ⟨_, rfl, rfl, rfl⟩
                            · intro w175 hE
                              rintro _ rfl
                              rintro _ rfl
                              rintro _ rfl
                              intro R
                              refine WL.take rfl ?_
                              refine WL.rem (r := (((X : Nat) : Int).tmod (xm.getD i 0))) rfl rfl (by omega) rfl rfl ?_
                              exact WL.done ⟨_, rfl, rfl, rfl⟩
                          · intro vals w176 hT hVs
                            have hB := ext_trans hB hT
                            have hv0 : vals 0 = _ := hVs 0 (by decide)
                            have hv1 : vals 1 = _ := hVs 1 (by decide)
                            have hv2 : vals 2 = _ := hVs 2 (by decide)
                            have hv3 : vals 3 = _ := hVs 3 (by decide)
                            have hv4 : vals 4 = _ := hVs 4 (by decide)
                            have hv5 : vals 5 = _ := hVs 5 (by decide)
                            have hv6 : vals 6 = _ := hVs 6 (by decide)
                            have hv7 : vals 7 = _ := hVs 7 (by decide)
                            rw [show (List.filterMap (fun i => Option.map (fun t => (t, vals i)) (dstAt _ i)) (List.range _)) = [(88, .bool true), (89, .bool true), (90, .int .i64 Z), (91, .int .i64 (xm.getD i 0)), (92, .int .i64 (Z.tmod (xm.getD i 0))), (93, .int .i64 ((X : Nat) : Int)), (94, .int .i64 (xm.getD i 0)), (95, .int .i64 (((X : Nat) : Int).tmod (xm.getD i 0)))] from by
                              show [(88, vals 0), (89, vals 1), (90, vals 2), (91, vals 3), (92, vals 4), (93, vals 5), (94, vals 6), (95, vals 7)] = _
                              rw [hv0, hv1, hv2, hv3, hv4, hv5, hv6, hv7]]
                            refine WA.step [8] (by decide +kernel) rfl ?_
                            intro iQ hQ
                            simp only [List.mem_cons, List.not_mem_nil, or_false] at hQ
                            obtain rfl := hQ
                            · refine ⟨_, rfl, ?_⟩
                              refine WL.take rfl ?_
                              refine WL.eql rfl rfl rfl (fun c177 => ?_) (fun c177 => ?_)
                              · refine WL.done ?_
                                refine WA.step [9] (by decide +kernel) rfl ?_
                                intro iQ hQ
                                simp only [List.mem_cons, List.not_mem_nil, or_false] at hQ
                                obtain rfl := hQ
                                · refine ⟨_, rfl, ?_⟩
                                  refine WL.pick rfl rfl rfl ?_
                                  refine WL.done ?_
                                  refine WA.step [10] (by decide +kernel) rfl ?_
                                  intro iQ hQ
                                  simp only [List.mem_cons, List.not_mem_nil, or_false] at hQ
                                  obtain rfl := hQ
                                  · refine ⟨_, rfl, ?_⟩
                                    refine WL.assign rfl rfl ?_
                                    refine WL.done ?_
                                    refine WA.done (by decide +kernel) ?_
                                    refine W.region ?_
                                    refine WL.add (r := ((i + 1 : Nat) : Int)) rfl rfl (wi64 (by omega) (by omega) (by omega)) rfl ?_
                                    refine WL.move rfl rfl ?_
                                    refine WL.done ?_
                                    refine ⟨(i + 1, true), ⟨rfl, rfl, iv (by omega), iv (by omega), iv (by omega), rfl, rfl, iv (by omega), iv (by omega), trivial⟩, by (dsimp only; omega), ?_⟩
                                    exact ⟨hB, by omega, fun h => by
                                      first
                                      | (cases h; done)
                                      | (have h3 := hb rfl
                                         exact ⟨h3.1, fun j hj => (by
                                          rcases Nat.lt_succ_iff_lt_or_eq.1 hj with h1 | h1
                                          · exact h3.2 j h1
                                          · rw [h1]; assumption)⟩)⟩
                              · refine WL.done ?_
                                refine WA.step [9] (by decide +kernel) rfl ?_
                                intro iQ hQ
                                simp only [List.mem_cons, List.not_mem_nil, or_false] at hQ
                                obtain rfl := hQ
                                · refine ⟨_, rfl, ?_⟩
                                  refine WL.pick rfl rfl rfl ?_
                                  refine WL.done ?_
                                  refine WA.step [10] (by decide +kernel) rfl ?_
                                  intro iQ hQ
                                  simp only [List.mem_cons, List.not_mem_nil, or_false] at hQ
                                  obtain rfl := hQ
                                  · refine ⟨_, rfl, ?_⟩
                                    refine WL.assign rfl rfl ?_
                                    refine WL.done ?_
                                    refine WA.done (by decide +kernel) ?_
                                    refine W.region ?_
                                    refine WL.add (r := ((i + 1 : Nat) : Int)) rfl rfl (wi64 (by omega) (by omega) (by omega)) rfl ?_
                                    refine WL.move rfl rfl ?_
                                    refine WL.done ?_
                                    refine ⟨(i + 1, false), ⟨rfl, rfl, iv (by omega), iv (by omega), iv (by omega), rfl, rfl, iv (by omega), iv (by omega), trivial⟩, by (dsimp only; omega), ?_⟩
                                    exact ⟨hB, by omega, fun h => by
                                      first
                                      | (cases h; done)
                                      | (have h3 := hb rfl
                                         exact ⟨h3.1, fun j hj => (by
                                          rcases Nat.lt_succ_iff_lt_or_eq.1 hj with h1 | h1
                                          · exact h3.2 j h1
                                          · rw [h1]; assumption)⟩)⟩
                  · refine WL.done ?_
                    refine W.seq ?_
                    refine W.condF rfl ?_
                    refine W.exit ?_
                    refine W.seq ?_
                    refine W.region ?_
                    refine WL.move rfl rfl ?_
                    refine WL.not rfl rfl ?_
                    refine WL.assign rfl rfl ?_
                    refine WL.done ?_
                    refine W.ret ?_
                    refine ⟨_, rfl, ?_⟩
                    first
                    | exact ⟨rfl, hB⟩
                    | (cases b
                       · exact ⟨rfl, hB⟩
                       · exact absurd (hk.uniq Z (hb rfl).1.1 (hb rfl).1.2.1 (fun j hj => (hb rfl).2 j (by omega))) (hb rfl).1.2.2)

theorem composite_c {w : World} (n : Nat) {X : Int} (hX : X = n) (hn2 : 2 ≤ n) (hn : n < 2147483648) (hp : ¬ IsLf n n) :
    Calls Try.prog 26 #[.int .i64 X] w fun e w2 => ∃ v, e = .returned v ∧ (fun v w2 => v = .bool true ∧ w.grownBy w2 none) v w2 := by
  have hB := ext_refl w
  refine calls_of_W (vs := [.int .i64 X]) [2] Try.func26 rfl rfl rfl rfl ?_
  refine W.seq ?_
  refine W.region ?_
  refine WL.assign rfl rfl ?_
  refine WL.done ?_
  refine W.seq ?_
  refine W.seq ?_
  refine W.region ?_
  refine WL.assign rfl rfl ?_
  refine WL.done ?_
  refine W.block ?_
  refine W.loop (σ := Nat) (fun d w1 => w.grownBy w1 none ∧ 2 ≤ d ∧ d ≤ n + 1 ∧ NoDiv n d) (fun d => [(0, .int .i64 X), (3, .int .i64 ((d : Nat) : Int))]) (fun d => n + 1 - d) 2 ?_ ?_ ?_
  · exact ⟨hB, by omega, by omega, fun z h1 h2 => by omega⟩
  · exact ⟨iv (by omega), iv (by omega), trivial⟩
  · rintro d w11 ⟨hB, hd2, hdn, hND⟩
    have hdl := Nat.div_le_self n d
    have hgt : n / d < d ↔ n < d * d := Nat.div_lt_iff_lt_mul (by omega)
    refine W.seq ?_
    refine W.seq ?_
    refine W.region ?_
    refine WL.move rfl rfl ?_
    refine WL.move rfl rfl ?_
    refine WL.move rfl rfl ?_
    refine WL.quo (r := ((n / d : Nat) : Int)) rfl rfl (by omega) (qi64 (by omega) (by omega) (by omega)) rfl ?_
    refine WL.leq rfl rfl rfl (fun c12 => ?_) (fun c12 => ?_)
    · refine WL.done ?_
      refine W.condT rfl ?_
      refine W.skip ?_
      refine W.seq ?_
      refine W.block ?_
      refine W.seq ?_
      refine W.region ?_
      refine WL.move rfl rfl ?_
      refine WL.move rfl rfl ?_
      refine WL.rem (r := ((n % d : Nat) : Int)) rfl rfl (by omega) (tmod_nat (by omega) (by omega)) rfl ?_
      refine WL.eql rfl rfl rfl (fun c13 => ?_) (fun c13 => ?_)
      · refine WL.done ?_
        refine W.condT rfl ?_
        refine W.seq ?_
        refine W.region ?_
        refine WL.assign rfl rfl ?_
        refine WL.done ?_
        refine W.ret ?_
        refine ⟨_, rfl, ?_⟩
        first
        | exact ⟨rfl, hB⟩
        | exact absurd (hND.self hn2 (by omega)) hp
      · refine WL.done ?_
        refine W.condF rfl ?_
        refine W.skip ?_
        refine W.region ?_
        refine WL.move rfl rfl ?_
        refine WL.add (r := ((d + 1 : Nat) : Int)) rfl rfl (wi64 (by omega) (by omega) (by omega)) rfl ?_
        refine WL.assign rfl rfl ?_
        refine WL.done ?_
        refine ⟨d + 1, ⟨iv (by omega), iv (by omega), trivial⟩, by omega, ?_⟩
        exact ⟨hB, by omega, by omega, fun z h1 h2 => by
          rcases Nat.lt_succ_iff_lt_or_eq.1 h1 with h3 | h3
          · exact hND z h3 h2
          · rw [h3]; omega⟩
    · refine WL.done ?_
      refine W.condF rfl ?_
      refine W.exit ?_
      refine W.seq ?_
      refine W.region ?_
      refine WL.assign rfl rfl ?_
      refine WL.done ?_
      refine W.ret ?_
      refine ⟨_, rfl, ?_⟩
      first
      | exact ⟨rfl, hB⟩
      | exact absurd (hND.self hn2 (by omega)) hp

set_option maxHeartbeats 4000000 in
theorem NumberPrimes_c {w : World} {X : Int} (hX : -9223372036854775808 ≤ X ∧ X ≤ 9223372036854775807) {Y : Int} (hY : -9223372036854775808 ≤ Y ∧ Y ≤ 9223372036854775807) {Z : Int} (hZ : -9223372036854775808 ≤ Z ∧ Z ≤ 9223372036854775807) :
    Calls Try.prog 5 #[.int .i64 X, .int .i64 Y, .int .i64 Z] w fun e w2 => ∃ v, e = .returned v ∧ (fun v w2 => v = .bool true ∧ w.grownBy w2 none) v w2 := by
  have hB := ext_refl w
  refine calls_of_W (vs := [.int .i64 X, .int .i64 Y, .int .i64 Z]) [6] Try.func5 rfl rfl rfl rfl ?_
  refine W.seq ?_
  refine W.region ?_
  refine WL.assign rfl rfl ?_
  refine WL.done ?_
  refine W.seq ?_
  refine W.seq ?_
  refine W.region ?_
  refine WL.call Try.func15 rfl Try.nm15 rfl rfl (awake_c) ?_
  rintro _ w11 ⟨rfl, hGw11⟩
  have hB := ext_trans hB hGw11
  refine WL.not rfl rfl ?_
  refine WL.done ?_
  refine W.condF rfl ?_
  refine W.skip ?_
  refine W.seq ?_
  refine W.seq ?_
  refine W.region ?_
  refine WL.move rfl rfl ?_
  refine WL.call Try.func24 rfl Try.nm24 rfl rfl (Prime_c (by omega)) ?_
  rintro _ w12 ⟨bz, rfl, hGw12, z_t, z_f⟩
  have hB := ext_trans hB hGw12
  rcases bz with _ | _
  · have z := z_f rfl
    refine WL.not rfl rfl ?_
    refine WL.done ?_
    refine W.condT rfl ?_
    refine W.seq ?_
    refine W.region ?_
    refine WL.move rfl rfl ?_
    refine WL.lss rfl rfl rfl (fun c13 => ?_) (fun c13 => ?_)
    · refine WL.move rfl rfl ?_
      refine WL.pass rfl rfl rfl ?_
      refine WL.pass rfl rfl rfl ?_
      refine WL.pick rfl rfl rfl ?_
      refine WL.move rfl rfl ?_
      refine WL.pass rfl rfl rfl ?_
      refine WL.pass rfl rfl rfl ?_
      refine WL.pick rfl rfl rfl ?_
      refine WL.assign rfl rfl ?_
      refine WL.done ?_
      refine W.ret ?_
      refine ⟨_, rfl, ?_⟩
      exact ⟨rfl, hB⟩
    · refine WL.move rfl rfl ?_
      refine WL.take rfl ?_
      refine WL.move rfl rfl ?_
      refine WL.take rfl ?_
      refine WL.gtr rfl rfl rfl (fun c14 => ?_) (fun c14 => ?_)
      · refine WL.pick rfl rfl rfl ?_
        refine WL.move rfl rfl ?_
        refine WL.pass rfl rfl rfl ?_
        refine WL.pass rfl rfl rfl ?_
        refine WL.pick rfl rfl rfl ?_
        refine WL.assign rfl rfl ?_
        refine WL.done ?_
        refine W.ret ?_
        refine ⟨_, rfl, ?_⟩
        exact ⟨rfl, hB⟩
      · refine WL.pick rfl rfl rfl ?_
        refine WL.move rfl rfl ?_
        refine WL.take rfl ?_
        refine WL.move rfl rfl ?_
        refine WL.take rfl ?_
        refine WL.call Try.func26 rfl Try.nm26 rfl rfl (composite_c X.toNat (by omega) (by omega) (by omega) (fun h9 => z ⟨by omega, by omega, h9⟩)) ?_
        rintro _ w15 ⟨rfl, hGw15⟩
        have hB := ext_trans hB hGw15
        refine WL.pick rfl rfl rfl ?_
        refine WL.assign rfl rfl ?_
        refine WL.done ?_
        refine W.ret ?_
        refine ⟨_, rfl, ?_⟩
        exact ⟨rfl, hB⟩
  · have z := z_t rfl
    refine WL.not rfl rfl ?_
    refine WL.done ?_
    refine W.condF rfl ?_
    refine W.skip ?_
    refine W.seq ?_
    refine W.seq ?_
    refine W.region ?_
    refine WL.move rfl rfl ?_
    refine WL.lss rfl rfl rfl (fun c16 => ?_) (fun c16 => ?_)
    · exfalso
      have := z.1
      omega
    · refine WL.move rfl rfl ?_
      refine WL.take rfl ?_
      refine WL.move rfl rfl ?_
      refine WL.take rfl ?_
      refine WL.gtr rfl rfl rfl (fun c17 => ?_) (fun c17 => ?_)
      · exfalso
        have := z.2.1
        omega
      · refine WL.pick rfl rfl rfl ?_
        refine WL.done ?_
        refine W.condF rfl ?_
        refine W.skip ?_
        refine W.seq ?_
        refine W.seq ?_
        refine W.region ?_
        refine WL.move rfl rfl ?_
        refine WL.gtr rfl rfl rfl (fun c18 => ?_) (fun c18 => ?_)
        · refine WL.move rfl rfl ?_
          refine WL.take rfl ?_
          refine WL.move rfl rfl ?_
          refine WL.take rfl ?_
          refine WL.move rfl rfl ?_
          refine WL.take rfl ?_
          refine WL.lss rfl rfl rfl (fun c19 => ?_) (fun c19 => ?_)
          · refine WL.pick rfl rfl rfl ?_
            refine WL.move rfl rfl ?_
            refine WL.take rfl ?_
            refine WL.move rfl rfl ?_
            refine WL.take rfl ?_
            refine WL.move rfl rfl ?_
            refine WL.take rfl ?_
            refine WL.rem (r := ((X.toNat % Y.toNat : Nat) : Int)) rfl rfl (by omega) (tmod_nat (by omega) (by omega)) rfl ?_
            refine WL.take rfl ?_
            refine WL.eql rfl rfl rfl (fun c20 => ?_) (fun c20 => ?_)
            · exfalso
              have h9 := z.2.2.min Y.toNat (by omega) (by omega)
              omega
            · refine WL.pick rfl rfl rfl ?_
              refine WL.done ?_
              refine W.condF rfl ?_
              refine W.skip ?_
              refine W.seq ?_
              have hz1 := z.1; have hz2 := z.2.1; have ra := tmod_range (a := Y) (n := X) (by omega); have rb := tmod_range (a := Z) (n := X) (by omega); have rp := mul_range (a := Y.tmod X) (b := Z.tmod X) (by omega) (by omega)
              · refine W.drawT 7 [⟨[], [1], true⟩, ⟨[], [0], true⟩, ⟨[0, 1], [], true⟩, ⟨[], [2], true⟩, ⟨[], [0], true⟩, ⟨[3, 4], [], true⟩, ⟨[2], [], true⟩] [[(1, .int .i64 Y)], [(0, .int .i64 X)], [], [(2, .int .i64 Z)], [(0, .int .i64 X)], [], []] (fun iQ => [fun v wQ => v = .int .i64 Y, fun v wQ => v = .int .i64 X, fun v wQ => v = .int .i64 (Y.tmod X), fun v wQ => v = .int .i64 Z, fun v wQ => v = .int .i64 X, fun v wQ => v = .int .i64 (Z.tmod X), fun v wQ => v = .int .i64 (Y.tmod X)].getD iQ (fun _ _ => True)) Try.mixed (by kernel_rfl) ?_ ?_ ?_
                · refine Vs_monoT _ ?_
                  intro VQ hVQ vQ wQ1 wQ2 hQ1 hQ2
                  simp only [List.mem_cons, List.not_mem_nil, or_false] at hVQ
                  rcases hVQ with rfl | rfl | rfl | rfl | rfl | rfl | rfl
                  · exact hQ1
                  · exact hQ1
                  · exact hQ1
                  · exact hQ1
                  · exact hQ1
                  · exact hQ1
                  · exact hQ1
                · refine ⟨⟨rfl, ⟨rfl, trivial⟩, ?_⟩, ⟨rfl, ⟨rfl, trivial⟩, ?_⟩, ⟨rfl, trivial, ?_⟩, ⟨rfl, ⟨rfl, trivial⟩, ?_⟩, ⟨rfl, ⟨rfl, trivial⟩, ?_⟩, ⟨rfl, trivial, ?_⟩, ⟨rfl, trivial, ?_⟩, trivial⟩
                  · intro w21 hE
                    intro R
                    refine WL.move rfl rfl ?_
                    exact WL.done ⟨_, rfl, rfl, rfl⟩
                  · intro w22 hE
                    intro R
                    refine WL.move rfl rfl ?_
                    exact WL.done ⟨_, rfl, rfl, rfl⟩
                  · intro w23 hE
                    rintro _ rfl
                    rintro _ rfl
                    intro R
                    refine WL.rem (r := (Y.tmod X)) rfl rfl (by omega) rfl rfl ?_
                    exact WL.done ⟨_, rfl, rfl, rfl⟩
                  · intro w24 hE
                    intro R
                    refine WL.move rfl rfl ?_
                    exact WL.done ⟨_, rfl, rfl, rfl⟩
                  · intro w25 hE
                    intro R
                    refine WL.move rfl rfl ?_
                    exact WL.done ⟨_, rfl, rfl, rfl⟩
                  · intro w26 hE
                    rintro _ rfl
                    rintro _ rfl
                    intro R
                    refine WL.rem (r := (Z.tmod X)) rfl rfl (by omega) rfl rfl ?_
                    exact WL.done ⟨_, rfl, rfl, rfl⟩
                  · intro w27 hE
                    rintro _ rfl
                    intro R
                    refine WL.assign rfl rfl ?_
                    exact WL.done ⟨_, rfl, rfl, rfl⟩
                · intro vals w28 hT hVs
                  have hB := ext_trans hB hT
                  have hv0 : vals 0 = _ := hVs 0 (by decide)
                  have hv1 : vals 1 = _ := hVs 1 (by decide)
                  have hv2 : vals 2 = _ := hVs 2 (by decide)
                  have hv3 : vals 3 = _ := hVs 3 (by decide)
                  have hv4 : vals 4 = _ := hVs 4 (by decide)
                  have hv5 : vals 5 = _ := hVs 5 (by decide)
                  have hv6 : vals 6 = _ := hVs 6 (by decide)
                  rw [show (List.filterMap (fun i => Option.map (fun t => (t, vals i)) (dstAt _ i)) (List.range _)) = [(43, .int .i64 Y), (44, .int .i64 X), (45, .int .i64 (Y.tmod X)), (46, .int .i64 Z), (47, .int .i64 X), (48, .int .i64 (Z.tmod X)), (7, .int .i64 (Y.tmod X))] from by
                    show [(43, vals 0), (44, vals 1), (45, vals 2), (46, vals 3), (47, vals 4), (48, vals 5), (7, vals 6)] = _
                    rw [hv0, hv1, hv2, hv3, hv4, hv5, hv6]]
                  refine WA.step [7] (by decide +kernel) rfl ?_
                  intro iQ hQ
                  simp only [List.mem_cons, List.not_mem_nil, or_false] at hQ
                  obtain rfl := hQ
                  · refine ⟨_, rfl, ?_⟩
                    refine WL.assign rfl rfl ?_
                    refine WL.done ?_
                    refine WA.done (by decide +kernel) ?_
                    refine W.seq ?_
                    refine W.region ?_
                    refine WL.move rfl rfl ?_
                    refine WL.move rfl rfl ?_
                    refine WL.mul (r := (Y.tmod X * Z.tmod X)) rfl rfl (wi64 (by omega) (by omega) rfl) rfl ?_
                    refine WL.move rfl rfl ?_
                    refine WL.rem (r := ((Y.tmod X * Z.tmod X).tmod X)) rfl rfl (by omega) rfl rfl ?_
                    refine WL.neq rfl rfl rfl (fun c29 => ?_) (fun c29 => ?_)
                    · refine WL.move rfl rfl ?_
                      refine WL.pass rfl rfl rfl ?_
                      refine WL.pass rfl rfl rfl ?_
                      refine WL.pick rfl rfl rfl ?_
                      refine WL.move rfl rfl ?_
                      refine WL.pass rfl rfl rfl ?_
                      refine WL.pass rfl rfl rfl ?_
                      refine WL.pick rfl rfl rfl ?_
                      refine WL.assign rfl rfl ?_
                      refine WL.done ?_
                      refine W.ret ?_
                      refine ⟨_, rfl, ?_⟩
                      exact ⟨rfl, hB⟩
                    · refine WL.move rfl rfl ?_
                      refine WL.take rfl ?_
                      refine WL.move rfl rfl ?_
                      refine WL.take rfl ?_
                      refine WL.eql rfl rfl rfl (fun c30 => ?_) (fun c30 => ?_)
                      · refine WL.pick rfl rfl rfl ?_
                        refine WL.move rfl rfl ?_
                        refine WL.pass rfl rfl rfl ?_
                        refine WL.pass rfl rfl rfl ?_
                        refine WL.pick rfl rfl rfl ?_
                        refine WL.assign rfl rfl ?_
                        refine WL.done ?_
                        refine W.ret ?_
                        refine ⟨_, rfl, ?_⟩
                        exact ⟨rfl, hB⟩
                      · refine WL.pick rfl rfl rfl ?_
                        refine WL.move rfl rfl ?_
                        refine WL.take rfl ?_
                        refine WL.move rfl rfl ?_
                        refine WL.take rfl ?_
                        refine WL.eql rfl rfl rfl (fun c31 => ?_) (fun c31 => ?_)
                        · refine WL.pick rfl rfl rfl ?_
                          refine WL.assign rfl rfl ?_
                          refine WL.done ?_
                          refine W.ret ?_
                          refine ⟨_, rfl, ?_⟩
                          exact ⟨rfl, hB⟩
                        · exfalso
                          rcases prime_tmod z (a := Y) (b := Z) (by omega) with h9 | h9 <;> omega
          · refine WL.pick rfl rfl rfl ?_
            refine WL.move rfl rfl ?_
            refine WL.pass rfl rfl rfl ?_
            refine WL.pass rfl rfl rfl ?_
            refine WL.pass rfl rfl rfl ?_
            refine WL.pass rfl rfl rfl ?_
            refine WL.pick rfl rfl rfl ?_
            refine WL.done ?_
            refine W.condF rfl ?_
            refine W.skip ?_
            refine W.seq ?_
            have hz1 := z.1; have hz2 := z.2.1; have ra := tmod_range (a := Y) (n := X) (by omega); have rb := tmod_range (a := Z) (n := X) (by omega); have rp := mul_range (a := Y.tmod X) (b := Z.tmod X) (by omega) (by omega)
            · refine W.drawT 7 [⟨[], [1], true⟩, ⟨[], [0], true⟩, ⟨[0, 1], [], true⟩, ⟨[], [2], true⟩, ⟨[], [0], true⟩, ⟨[3, 4], [], true⟩, ⟨[2], [], true⟩] [[(1, .int .i64 Y)], [(0, .int .i64 X)], [], [(2, .int .i64 Z)], [(0, .int .i64 X)], [], []] (fun iQ => [fun v wQ => v = .int .i64 Y, fun v wQ => v = .int .i64 X, fun v wQ => v = .int .i64 (Y.tmod X), fun v wQ => v = .int .i64 Z, fun v wQ => v = .int .i64 X, fun v wQ => v = .int .i64 (Z.tmod X), fun v wQ => v = .int .i64 (Y.tmod X)].getD iQ (fun _ _ => True)) Try.mixed (by kernel_rfl) ?_ ?_ ?_
              · refine Vs_monoT _ ?_
                intro VQ hVQ vQ wQ1 wQ2 hQ1 hQ2
                simp only [List.mem_cons, List.not_mem_nil, or_false] at hVQ
                rcases hVQ with rfl | rfl | rfl | rfl | rfl | rfl | rfl
                · exact hQ1
                · exact hQ1
                · exact hQ1
                · exact hQ1
                · exact hQ1
                · exact hQ1
                · exact hQ1
              · refine ⟨⟨rfl, ⟨rfl, trivial⟩, ?_⟩, ⟨rfl, ⟨rfl, trivial⟩, ?_⟩, ⟨rfl, trivial, ?_⟩, ⟨rfl, ⟨rfl, trivial⟩, ?_⟩, ⟨rfl, ⟨rfl, trivial⟩, ?_⟩, ⟨rfl, trivial, ?_⟩, ⟨rfl, trivial, ?_⟩, trivial⟩
                · intro w32 hE
                  intro R
                  refine WL.move rfl rfl ?_
                  exact WL.done ⟨_, rfl, rfl, rfl⟩
                · intro w33 hE
                  intro R
                  refine WL.move rfl rfl ?_
                  exact WL.done ⟨_, rfl, rfl, rfl⟩
                · intro w34 hE
                  rintro _ rfl
                  rintro _ rfl
                  intro R
                  refine WL.rem (r := (Y.tmod X)) rfl rfl (by omega) rfl rfl ?_
                  exact WL.done ⟨_, rfl, rfl, rfl⟩
                · intro w35 hE
                  intro R
                  refine WL.move rfl rfl ?_
                  exact WL.done ⟨_, rfl, rfl, rfl⟩
                · intro w36 hE
                  intro R
                  refine WL.move rfl rfl ?_
                  exact WL.done ⟨_, rfl, rfl, rfl⟩
                · intro w37 hE
                  rintro _ rfl
                  rintro _ rfl
                  intro R
                  refine WL.rem (r := (Z.tmod X)) rfl rfl (by omega) rfl rfl ?_
                  exact WL.done ⟨_, rfl, rfl, rfl⟩
                · intro w38 hE
                  rintro _ rfl
                  intro R
                  refine WL.assign rfl rfl ?_
                  exact WL.done ⟨_, rfl, rfl, rfl⟩
              · intro vals w39 hT hVs
                have hB := ext_trans hB hT
                have hv0 : vals 0 = _ := hVs 0 (by decide)
                have hv1 : vals 1 = _ := hVs 1 (by decide)
                have hv2 : vals 2 = _ := hVs 2 (by decide)
                have hv3 : vals 3 = _ := hVs 3 (by decide)
                have hv4 : vals 4 = _ := hVs 4 (by decide)
                have hv5 : vals 5 = _ := hVs 5 (by decide)
                have hv6 : vals 6 = _ := hVs 6 (by decide)
                rw [show (List.filterMap (fun i => Option.map (fun t => (t, vals i)) (dstAt _ i)) (List.range _)) = [(43, .int .i64 Y), (44, .int .i64 X), (45, .int .i64 (Y.tmod X)), (46, .int .i64 Z), (47, .int .i64 X), (48, .int .i64 (Z.tmod X)), (7, .int .i64 (Y.tmod X))] from by
                  show [(43, vals 0), (44, vals 1), (45, vals 2), (46, vals 3), (47, vals 4), (48, vals 5), (7, vals 6)] = _
                  rw [hv0, hv1, hv2, hv3, hv4, hv5, hv6]]
                refine WA.step [7] (by decide +kernel) rfl ?_
                intro iQ hQ
                simp only [List.mem_cons, List.not_mem_nil, or_false] at hQ
                obtain rfl := hQ
                · refine ⟨_, rfl, ?_⟩
                  refine WL.assign rfl rfl ?_
                  refine WL.done ?_
                  refine WA.done (by decide +kernel) ?_
                  refine W.seq ?_
                  refine W.region ?_
                  refine WL.move rfl rfl ?_
                  refine WL.move rfl rfl ?_
                  refine WL.mul (r := (Y.tmod X * Z.tmod X)) rfl rfl (wi64 (by omega) (by omega) rfl) rfl ?_
                  refine WL.move rfl rfl ?_
                  refine WL.rem (r := ((Y.tmod X * Z.tmod X).tmod X)) rfl rfl (by omega) rfl rfl ?_
                  refine WL.neq rfl rfl rfl (fun c40 => ?_) (fun c40 => ?_)
                  · refine WL.move rfl rfl ?_
                    refine WL.pass rfl rfl rfl ?_
                    refine WL.pass rfl rfl rfl ?_
                    refine WL.pick rfl rfl rfl ?_
                    refine WL.move rfl rfl ?_
                    refine WL.pass rfl rfl rfl ?_
                    refine WL.pass rfl rfl rfl ?_
                    refine WL.pick rfl rfl rfl ?_
                    refine WL.assign rfl rfl ?_
                    refine WL.done ?_
                    refine W.ret ?_
                    refine ⟨_, rfl, ?_⟩
                    exact ⟨rfl, hB⟩
                  · refine WL.move rfl rfl ?_
                    refine WL.take rfl ?_
                    refine WL.move rfl rfl ?_
                    refine WL.take rfl ?_
                    refine WL.eql rfl rfl rfl (fun c41 => ?_) (fun c41 => ?_)
                    · refine WL.pick rfl rfl rfl ?_
                      refine WL.move rfl rfl ?_
                      refine WL.pass rfl rfl rfl ?_
                      refine WL.pass rfl rfl rfl ?_
                      refine WL.pick rfl rfl rfl ?_
                      refine WL.assign rfl rfl ?_
                      refine WL.done ?_
                      refine W.ret ?_
                      refine ⟨_, rfl, ?_⟩
                      exact ⟨rfl, hB⟩
                    · refine WL.pick rfl rfl rfl ?_
                      refine WL.move rfl rfl ?_
                      refine WL.take rfl ?_
                      refine WL.move rfl rfl ?_
                      refine WL.take rfl ?_
                      refine WL.eql rfl rfl rfl (fun c42 => ?_) (fun c42 => ?_)
                      · refine WL.pick rfl rfl rfl ?_
                        refine WL.assign rfl rfl ?_
                        refine WL.done ?_
                        refine W.ret ?_
                        refine ⟨_, rfl, ?_⟩
                        exact ⟨rfl, hB⟩
                      · exfalso
                        rcases prime_tmod z (a := Y) (b := Z) (by omega) with h9 | h9 <;> omega
        · refine WL.move rfl rfl ?_
          refine WL.pass rfl rfl rfl ?_
          refine WL.pass rfl rfl rfl ?_
          refine WL.pass rfl rfl rfl ?_
          refine WL.pick rfl rfl rfl ?_
          refine WL.move rfl rfl ?_
          refine WL.pass rfl rfl rfl ?_
          refine WL.pass rfl rfl rfl ?_
          refine WL.pass rfl rfl rfl ?_
          refine WL.pass rfl rfl rfl ?_
          refine WL.pick rfl rfl rfl ?_
          refine WL.done ?_
          refine W.condF rfl ?_
          refine W.skip ?_
          refine W.seq ?_
          have hz1 := z.1; have hz2 := z.2.1; have ra := tmod_range (a := Y) (n := X) (by omega); have rb := tmod_range (a := Z) (n := X) (by omega); have rp := mul_range (a := Y.tmod X) (b := Z.tmod X) (by omega) (by omega)
          · refine W.drawT 7 [⟨[], [1], true⟩, ⟨[], [0], true⟩, ⟨[0, 1], [], true⟩, ⟨[], [2], true⟩, ⟨[], [0], true⟩, ⟨[3, 4], [], true⟩, ⟨[2], [], true⟩] [[(1, .int .i64 Y)], [(0, .int .i64 X)], [], [(2, .int .i64 Z)], [(0, .int .i64 X)], [], []] (fun iQ => [fun v wQ => v = .int .i64 Y, fun v wQ => v = .int .i64 X, fun v wQ => v = .int .i64 (Y.tmod X), fun v wQ => v = .int .i64 Z, fun v wQ => v = .int .i64 X, fun v wQ => v = .int .i64 (Z.tmod X), fun v wQ => v = .int .i64 (Y.tmod X)].getD iQ (fun _ _ => True)) Try.mixed (by kernel_rfl) ?_ ?_ ?_
            · refine Vs_monoT _ ?_
              intro VQ hVQ vQ wQ1 wQ2 hQ1 hQ2
              simp only [List.mem_cons, List.not_mem_nil, or_false] at hVQ
              rcases hVQ with rfl | rfl | rfl | rfl | rfl | rfl | rfl
              · exact hQ1
              · exact hQ1
              · exact hQ1
              · exact hQ1
              · exact hQ1
              · exact hQ1
              · exact hQ1
            · refine ⟨⟨rfl, ⟨rfl, trivial⟩, ?_⟩, ⟨rfl, ⟨rfl, trivial⟩, ?_⟩, ⟨rfl, trivial, ?_⟩, ⟨rfl, ⟨rfl, trivial⟩, ?_⟩, ⟨rfl, ⟨rfl, trivial⟩, ?_⟩, ⟨rfl, trivial, ?_⟩, ⟨rfl, trivial, ?_⟩, trivial⟩
              · intro w43 hE
                intro R
                refine WL.move rfl rfl ?_
                exact WL.done ⟨_, rfl, rfl, rfl⟩
              · intro w44 hE
                intro R
                refine WL.move rfl rfl ?_
                exact WL.done ⟨_, rfl, rfl, rfl⟩
              · intro w45 hE
                rintro _ rfl
                rintro _ rfl
                intro R
                refine WL.rem (r := (Y.tmod X)) rfl rfl (by omega) rfl rfl ?_
                exact WL.done ⟨_, rfl, rfl, rfl⟩
              · intro w46 hE
                intro R
                refine WL.move rfl rfl ?_
                exact WL.done ⟨_, rfl, rfl, rfl⟩
              · intro w47 hE
                intro R
                refine WL.move rfl rfl ?_
                exact WL.done ⟨_, rfl, rfl, rfl⟩
              · intro w48 hE
                rintro _ rfl
                rintro _ rfl
                intro R
                refine WL.rem (r := (Z.tmod X)) rfl rfl (by omega) rfl rfl ?_
                exact WL.done ⟨_, rfl, rfl, rfl⟩
              · intro w49 hE
                rintro _ rfl
                intro R
                refine WL.assign rfl rfl ?_
                exact WL.done ⟨_, rfl, rfl, rfl⟩
            · intro vals w50 hT hVs
              have hB := ext_trans hB hT
              have hv0 : vals 0 = _ := hVs 0 (by decide)
              have hv1 : vals 1 = _ := hVs 1 (by decide)
              have hv2 : vals 2 = _ := hVs 2 (by decide)
              have hv3 : vals 3 = _ := hVs 3 (by decide)
              have hv4 : vals 4 = _ := hVs 4 (by decide)
              have hv5 : vals 5 = _ := hVs 5 (by decide)
              have hv6 : vals 6 = _ := hVs 6 (by decide)
              rw [show (List.filterMap (fun i => Option.map (fun t => (t, vals i)) (dstAt _ i)) (List.range _)) = [(43, .int .i64 Y), (44, .int .i64 X), (45, .int .i64 (Y.tmod X)), (46, .int .i64 Z), (47, .int .i64 X), (48, .int .i64 (Z.tmod X)), (7, .int .i64 (Y.tmod X))] from by
                show [(43, vals 0), (44, vals 1), (45, vals 2), (46, vals 3), (47, vals 4), (48, vals 5), (7, vals 6)] = _
                rw [hv0, hv1, hv2, hv3, hv4, hv5, hv6]]
              refine WA.step [7] (by decide +kernel) rfl ?_
              intro iQ hQ
              simp only [List.mem_cons, List.not_mem_nil, or_false] at hQ
              obtain rfl := hQ
              · refine ⟨_, rfl, ?_⟩
                refine WL.assign rfl rfl ?_
                refine WL.done ?_
                refine WA.done (by decide +kernel) ?_
                refine W.seq ?_
                refine W.region ?_
                refine WL.move rfl rfl ?_
                refine WL.move rfl rfl ?_
                refine WL.mul (r := (Y.tmod X * Z.tmod X)) rfl rfl (wi64 (by omega) (by omega) rfl) rfl ?_
                refine WL.move rfl rfl ?_
                refine WL.rem (r := ((Y.tmod X * Z.tmod X).tmod X)) rfl rfl (by omega) rfl rfl ?_
                refine WL.neq rfl rfl rfl (fun c51 => ?_) (fun c51 => ?_)
                · refine WL.move rfl rfl ?_
                  refine WL.pass rfl rfl rfl ?_
                  refine WL.pass rfl rfl rfl ?_
                  refine WL.pick rfl rfl rfl ?_
                  refine WL.move rfl rfl ?_
                  refine WL.pass rfl rfl rfl ?_
                  refine WL.pass rfl rfl rfl ?_
                  refine WL.pick rfl rfl rfl ?_
                  refine WL.assign rfl rfl ?_
                  refine WL.done ?_
                  refine W.ret ?_
                  refine ⟨_, rfl, ?_⟩
                  exact ⟨rfl, hB⟩
                · refine WL.move rfl rfl ?_
                  refine WL.take rfl ?_
                  refine WL.move rfl rfl ?_
                  refine WL.take rfl ?_
                  refine WL.eql rfl rfl rfl (fun c52 => ?_) (fun c52 => ?_)
                  · refine WL.pick rfl rfl rfl ?_
                    refine WL.move rfl rfl ?_
                    refine WL.pass rfl rfl rfl ?_
                    refine WL.pass rfl rfl rfl ?_
                    refine WL.pick rfl rfl rfl ?_
                    refine WL.assign rfl rfl ?_
                    refine WL.done ?_
                    refine W.ret ?_
                    refine ⟨_, rfl, ?_⟩
                    exact ⟨rfl, hB⟩
                  · refine WL.pick rfl rfl rfl ?_
                    refine WL.move rfl rfl ?_
                    refine WL.take rfl ?_
                    refine WL.move rfl rfl ?_
                    refine WL.take rfl ?_
                    refine WL.eql rfl rfl rfl (fun c53 => ?_) (fun c53 => ?_)
                    · refine WL.pick rfl rfl rfl ?_
                      refine WL.assign rfl rfl ?_
                      refine WL.done ?_
                      refine W.ret ?_
                      refine ⟨_, rfl, ?_⟩
                      exact ⟨rfl, hB⟩
                    · exfalso
                      rcases prime_tmod z (a := Y) (b := Z) (by omega) with h9 | h9 <;> omega
end Go.Proofs.Ytdmgbahognfhbaa
