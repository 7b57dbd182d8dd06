/- Contracts of functions of the program, and what they lean on: N9, Ny, Nz, N15, Args3, Args4. -/
import Derived.Test.YtdmgbahognfhbabNumberPascalG3
set_option linter.unusedSimpArgs false
set_option linter.unusedVariables false
namespace Go.Proofs.Ytdmgbahognfhbab
open Go.RowKit
theorem fac360 : IsFac 360 [(2, 3), (3, 2), (5, 1)] := .step (m := 45) (.of_lt (by decide) (by decide) (by decide)) (by decide) (by decide) (by decide) (.step (m := 5) (.of_lt (by decide) (by decide) (by decide)) (by decide) (by decide) (by decide) (.step (m := 1) (.of_lt (by decide) (by decide) (by decide)) (by decide) (by decide) (by decide) .one))
theorem fac243 : IsFac 243 [(3, 5)] := .step (m := 1) (.of_lt (by decide) (by decide) (by decide)) (by decide) (by decide) (by decide) .one
theorem fac36 : IsFac 36 [(2, 2), (3, 2)] := .step (m := 9) (.of_lt (by decide) (by decide) (by decide)) (by decide) (by decide) (by decide) (.step (m := 1) (.of_lt (by decide) (by decide) (by decide)) (by decide) (by decide) (by decide) .one)
theorem fac30 : IsFac 30 [(2, 1), (3, 1), (5, 1)] := .step (m := 15) (.of_lt (by decide) (by decide) (by decide)) (by decide) (by decide) (by decide) (.step (m := 5) (.of_lt (by decide) (by decide) (by decide)) (by decide) (by decide) (by decide) (.step (m := 1) (.of_lt (by decide) (by decide) (by decide)) (by decide) (by decide) (by decide) .one))
theorem bez12 : BezR 12 18 6 2 (-1) 0 := .ok (by decide) (by decide) (by decide) ⟨by decide, by decide, by decide, by decide⟩
theorem inv37 : InvR 3 7 5 0 := .ok (by decide) ⟨by decide, ⟨2, by decide⟩⟩
theorem ord27 : OrdR 2 7 3 0 := .ok (by decide) (by decide) ⟨by decide, ⟨1, by decide⟩, fun j h0 h1 => by
  rcases Nat.lt_or_ge j 3 with h | h
  · exfalso
    have hj : j = 1 ∨ j = 2 := by omega
    rcases hj with rfl | rfl
    · exact absurd (One.iff.1 h1) (by decide)
    · exact absurd (One.iff.1 h1) (by decide)
  · exact h⟩
theorem chi23 : ChiR [2, 3] [3, 5] 8 15 0 := by
  refine .ok rfl (by decide) (by decide) ?_
  refine .step (m := 3) (y := 1) (by decide) rfl (by decide) ⟨by decide, ⟨0, by decide⟩⟩ ?_
  refine .step (m := 5) (y := 2) (by decide) rfl (by decide) ⟨by decide, ⟨1, by decide⟩⟩ ?_
  exact .done (by decide)

theorem awake_c {w : World} :
    Calls Try.prog 15 #[] w fun e w2 => ∃ v, e = .returned v ∧ (fun v w2 => v = .bool true ∧ w.grownBy w2 none) v w2 := by
  have hB := ext_refl w
  refine calls_of_W (vs := []) [0] Try.func15 rfl rfl rfl rfl ?_
  refine W.seq ?_
  refine W.region ?_
  refine WL.assign rfl rfl ?_
  refine WL.done ?_
  refine W.seq ?_
  refine W.region ?_
  refine WL.call Try.func55 rfl Try.nm55 rfl rfl (Factor_ok 360 rfl ([(2, 3), (3, 2), (5, 1)]) fac360 (by decide) (by decide)) ?_
  rintro _ w11 ⟨A12, m13, c14, rfl, hGw11, hf⟩
  have hf := hf.low (b' := w.heap.size) hB.size
  have hB := ext_trans hB hGw11
  have hf_l := hf.rd.plen
  simp only [List.length_cons, List.length_nil] at hf_l
  refine WL.move rfl rfl ?_
  refine WL.extract rfl rfl rfl ?_
  refine WL.extract rfl rfl rfl ?_
  refine WL.assign rfl rfl ?_
  refine WL.assign rfl rfl ?_
  refine WL.done ?_
  refine W.seq ?_
  refine W.seq ?_
  refine W.region ?_
  refine WL.move rfl rfl ?_
  refine WL.neq rfl rfl rfl (fun c15 => ?_) (fun c15 => ?_)
  · exfalso
    omega
  · refine WL.move rfl rfl ?_
    refine WL.take rfl ?_
    refine WL.move rfl rfl ?_
    refine WL.take rfl ?_
    refine WL.len Try.underlying69 rfl rfl ?_
    refine WL.take rfl ?_
    refine WL.neq rfl rfl rfl (fun c16 => ?_) (fun c16 => ?_)
    · exfalso
      omega
    · refine WL.pick rfl rfl rfl ?_
      refine WL.move rfl rfl ?_
      refine WL.take rfl ?_
      refine WL.move rfl rfl ?_
      refine WL.take rfl ?_
      refine WL.index (0) Try.underlying69 Try.el73 rfl rfl (by omega) (by omega) hf.rd rfl ?_
      refine WL.take rfl ?_
      refine WL.loadV (cs := [.int .i64 (((([(2, 3), (3, 2), (5, 1)]).getD 0 (0, 0)).1 : Nat) : Int), .int .i64 (((([(2, 3), (3, 2), (5, 1)]).getD 0 (0, 0)).2 : Nat) : Int)]) Try.el73 Try.agg73 rfl rfl (pc_load hf.rd (0) (by first | omega | decide)) rfl ?_
      refine WL.take rfl ?_
      refine WL.build (cells := #[.int .i64 (2 : Int), .int .i64 (3 : Int)]) Try.bld73 rfl rfl rfl ?_
      refine WL.take rfl ?_
      refine WL.neq2 (r := false) Try.eq73 rfl rfl (by decide) rfl ?_
      refine WL.pick rfl rfl rfl ?_
      refine WL.move rfl rfl ?_
      refine WL.take rfl ?_
      refine WL.move rfl rfl ?_
      refine WL.take rfl ?_
      refine WL.index (1) Try.underlying69 Try.el73 rfl rfl (by omega) (by omega) hf.rd rfl ?_
      refine WL.take rfl ?_
      refine WL.loadV (cs := [.int .i64 (((([(2, 3), (3, 2), (5, 1)]).getD 1 (0, 0)).1 : Nat) : Int), .int .i64 (((([(2, 3), (3, 2), (5, 1)]).getD 1 (0, 0)).2 : Nat) : Int)]) Try.el73 Try.agg73 rfl rfl (pc_load hf.rd (1) (by first | omega | decide)) rfl ?_
      refine WL.take rfl ?_
      refine WL.build (cells := #[.int .i64 (3 : Int), .int .i64 (2 : Int)]) Try.bld73 rfl rfl rfl ?_
      refine WL.take rfl ?_
      refine WL.neq2 (r := false) Try.eq73 rfl rfl (by decide) rfl ?_
      refine WL.pick rfl rfl rfl ?_
      refine WL.move rfl rfl ?_
      refine WL.take rfl ?_
      refine WL.move rfl rfl ?_
      refine WL.take rfl ?_
      refine WL.index (2) Try.underlying69 Try.el73 rfl rfl (by omega) (by omega) hf.rd rfl ?_
      refine WL.take rfl ?_
      refine WL.loadV (cs := [.int .i64 (((([(2, 3), (3, 2), (5, 1)]).getD 2 (0, 0)).1 : Nat) : Int), .int .i64 (((([(2, 3), (3, 2), (5, 1)]).getD 2 (0, 0)).2 : Nat) : Int)]) Try.el73 Try.agg73 rfl rfl (pc_load hf.rd (2) (by first | omega | decide)) rfl ?_
      refine WL.take rfl ?_
      refine WL.build (cells := #[.int .i64 (5 : Int), .int .i64 (1 : Int)]) Try.bld73 rfl rfl rfl ?_
      refine WL.take rfl ?_
      refine WL.neq2 (r := false) Try.eq73 rfl rfl (by decide) rfl ?_
      refine WL.pick rfl rfl rfl ?_
      refine WL.done ?_
      refine W.condF rfl ?_
      refine W.skip ?_
      refine W.seq ?_
      refine W.region ?_
      refine WL.call Try.func56 rfl Try.nm56 rfl rfl (PrimePower_ok 243 rfl ([(3, 5)]) fac243 (by decide) (by decide)) ?_
      rintro _ w17 ⟨rfl, hGw17⟩
      have hB := ext_trans hB hGw17
      rw [show (ppS [(3, 5)]).1 = 3 from rfl, show (ppS [(3, 5)]).2.1 = 5 from rfl, show (ppS [(3, 5)]).2.2 = 0 from rfl]
      refine WL.move rfl rfl ?_
      refine WL.extract rfl rfl rfl ?_
      refine WL.extract rfl rfl rfl ?_
      refine WL.extract rfl rfl rfl ?_
      refine WL.assign rfl rfl ?_
      refine WL.assign rfl rfl ?_
      refine WL.assign rfl rfl ?_
      refine WL.done ?_
      refine W.seq ?_
      refine W.region ?_
      refine WL.call Try.func57 rfl Try.nm57 rfl rfl (Bezout_c (by omega) (by omega) 6 (2 : Int) (-1 : Int) 0 bez12) ?_
      rintro _ w18 ⟨rfl, hGw18⟩
      have hB := ext_trans hB hGw18
      refine WL.move rfl rfl ?_
      refine WL.extract rfl rfl rfl ?_
      refine WL.extract rfl rfl rfl ?_
      refine WL.extract rfl rfl rfl ?_
      refine WL.extract rfl rfl rfl ?_
      refine WL.assign rfl rfl ?_
      refine WL.assign rfl rfl ?_
      refine WL.assign rfl rfl ?_
      refine WL.assign rfl rfl ?_
      refine WL.done ?_
      refine W.seq ?_
      refine W.region ?_
      refine WL.call Try.func58 rfl Try.nm58 rfl rfl (Inverse_c (by omega) (by omega) 5 0 inv37) ?_
      rintro _ w19 ⟨rfl, hGw19⟩
      have hB := ext_trans hB hGw19
      refine WL.move rfl rfl ?_
      refine WL.extract rfl rfl rfl ?_
      refine WL.extract rfl rfl rfl ?_
      refine WL.assign rfl rfl ?_
      refine WL.assign rfl rfl ?_
      refine WL.done ?_
      refine W.seq ?_
      refine W.region ?_
      refine WL.call Try.func59 rfl Try.nm59 rfl rfl (Order_c (by omega) (by omega) 3 0 ord27) ?_
      rintro _ w20 ⟨rfl, hGw20⟩
      have hB := ext_trans hB hGw20
      refine WL.move rfl rfl ?_
      refine WL.extract rfl rfl rfl ?_
      refine WL.extract rfl rfl rfl ?_
      refine WL.assign rfl rfl ?_
      refine WL.assign rfl rfl ?_
      refine WL.done ?_
      refine W.seq ?_
      refine W.seq ?_
      refine W.region ?_
      refine WL.move rfl rfl ?_
      refine WL.neq rfl rfl rfl (fun c21 => ?_) (fun c21 => ?_)
      · exfalso
        omega
      · refine WL.move rfl rfl ?_
        refine WL.take rfl ?_
        refine WL.move rfl rfl ?_
        refine WL.take rfl ?_
        refine WL.neq rfl rfl rfl (fun c22 => ?_) (fun c22 => ?_)
        · exfalso
          omega
        · refine WL.pick rfl rfl rfl ?_
          refine WL.move rfl rfl ?_
          refine WL.take rfl ?_
          refine WL.move rfl rfl ?_
          refine WL.take rfl ?_
          refine WL.neq rfl rfl rfl (fun c23 => ?_) (fun c23 => ?_)
          · exfalso
            omega
          · refine WL.pick rfl rfl rfl ?_
            refine WL.move rfl rfl ?_
            refine WL.take rfl ?_
            refine WL.move rfl rfl ?_
            refine WL.take rfl ?_
            refine WL.neq rfl rfl rfl (fun c24 => ?_) (fun c24 => ?_)
            · exfalso
              omega
            · refine WL.pick rfl rfl rfl ?_
              refine WL.move rfl rfl ?_
              refine WL.take rfl ?_
              refine WL.move rfl rfl ?_
              refine WL.take rfl ?_
              refine WL.neq rfl rfl rfl (fun c25 => ?_) (fun c25 => ?_)
              · exfalso
                omega
              · refine WL.pick rfl rfl rfl ?_
                refine WL.move rfl rfl ?_
                refine WL.take rfl ?_
                refine WL.move rfl rfl ?_
                refine WL.take rfl ?_
                refine WL.neq rfl rfl rfl (fun c26 => ?_) (fun c26 => ?_)
                · exfalso
                  omega
                · refine WL.pick rfl rfl rfl ?_
                  refine WL.move rfl rfl ?_
                  refine WL.take rfl ?_
                  refine WL.move rfl rfl ?_
                  refine WL.take rfl ?_
                  refine WL.neq rfl rfl rfl (fun c27 => ?_) (fun c27 => ?_)
                  · exfalso
                    omega
                  · refine WL.pick rfl rfl rfl ?_
                    refine WL.move rfl rfl ?_
                    refine WL.take rfl ?_
                    refine WL.move rfl rfl ?_
                    refine WL.take rfl ?_
                    refine WL.neq rfl rfl rfl (fun c28 => ?_) (fun c28 => ?_)
                    · exfalso
                      omega
                    · refine WL.pick rfl rfl rfl ?_
                      refine WL.move rfl rfl ?_
                      refine WL.take rfl ?_
                      refine WL.move rfl rfl ?_
                      refine WL.take rfl ?_
                      refine WL.neq rfl rfl rfl (fun c29 => ?_) (fun c29 => ?_)
                      · exfalso
                        omega
                      · refine WL.pick rfl rfl rfl ?_
                        refine WL.move rfl rfl ?_
                        refine WL.take rfl ?_
                        refine WL.move rfl rfl ?_
                        refine WL.take rfl ?_
                        refine WL.neq rfl rfl rfl (fun c30 => ?_) (fun c30 => ?_)
                        · exfalso
                          omega
                        · refine WL.pick rfl rfl rfl ?_
                          refine WL.move rfl rfl ?_
                          refine WL.take rfl ?_
                          refine WL.move rfl rfl ?_
                          refine WL.take rfl ?_
                          refine WL.neq rfl rfl rfl (fun c31 => ?_) (fun c31 => ?_)
                          · exfalso
                            omega
                          · refine WL.pick rfl rfl rfl ?_
                            refine WL.done ?_
                            refine W.condF rfl ?_
                            refine W.skip ?_
                            refine W.seq ?_
                            refine W.region ?_
                            refine WL.call Try.func60 rfl Try.nm60 rfl rfl (Power_c (by omega) (by omega) (by omega)) ?_
                            rintro _ w32 ⟨rfl, hGw32⟩
                            have hB := ext_trans hB hGw32
                            rw [show (powS 3 5 7).1 = 5 from by decide +kernel, show (powS 3 5 7).2 = 0 from by decide +kernel]
                            refine WL.move rfl rfl ?_
                            refine WL.extract rfl rfl rfl ?_
                            refine WL.extract rfl rfl rfl ?_
                            refine WL.assign rfl rfl ?_
                            refine WL.assign rfl rfl ?_
                            refine WL.done ?_
                            refine W.seq ?_
                            refine W.region ?_
                            refine WL.call Try.func61 rfl Try.nm61 rfl rfl (Phi_ok 36 rfl ([(2, 2), (3, 2)]) fac36 (by decide) (by decide)) ?_
                            rintro _ w33 ⟨rfl, hGw33⟩
                            have hB := ext_trans hB hGw33
                            rw [show phiL [(2, 2), (3, 2)] = 12 from rfl]
                            refine WL.move rfl rfl ?_
                            refine WL.extract rfl rfl rfl ?_
                            refine WL.extract rfl rfl rfl ?_
                            refine WL.assign rfl rfl ?_
                            refine WL.assign rfl rfl ?_
                            refine WL.done ?_
                            refine W.seq ?_
                            refine W.region ?_
                            refine WL.call Try.func62 rfl Try.nm62 rfl rfl (Moebius_ok 30 rfl ([(2, 1), (3, 1), (5, 1)]) fac30 (by decide) (by decide)) ?_
                            rintro _ w34 ⟨rfl, hGw34⟩
                            have hB := ext_trans hB hGw34
                            rw [show moeL [(2, 1), (3, 1), (5, 1)] = -1 from rfl]
                            refine WL.move rfl rfl ?_
                            refine WL.extract rfl rfl rfl ?_
                            refine WL.extract rfl rfl rfl ?_
                            refine WL.assign rfl rfl ?_
                            refine WL.assign rfl rfl ?_
                            refine WL.done ?_
                            refine W.seq ?_
                            refine W.region ?_
                            refine WL.lit1 (b := w34.heap.size) Try.underlying27 Try.el3 rfl rfl rfl rfl (by intro v hv; simp only [List.mem_cons, List.not_mem_nil, or_false] at hv; rcases hv with rfl | rfl <;> rfl) (Nat.le_refl _) rfl ?_
                            rintro A35 w36 - hO37 hGw36
                            have hO37 := hO37.low (b' := w.heap.size) hB.size
                            have hB := ext_trans hB hGw36
                            change Own _ _ _ _ _ _ _ (is ([(2 : Int), (3 : Int)] : List Int)) at hO37
                            refine WL.lit1 (b := w36.heap.size) Try.underlying27 Try.el3 rfl rfl rfl rfl (by intro v hv; simp only [List.mem_cons, List.not_mem_nil, or_false] at hv; rcases hv with rfl | rfl <;> rfl) (Nat.le_refl _) rfl ?_
                            rintro A38 w39 - hO40 hGw39
                            have hO40 := hO40.low (b' := w.heap.size) hB.size
                            have hB := ext_trans hB hGw39
                            have hO37 := hO37.ext hGw39
                            change Own _ _ _ _ _ _ _ (is ([(3 : Int), (5 : Int)] : List Int)) at hO40
                            refine WL.call Try.func63 rfl Try.nm63 rfl rfl (Chinese_c hO37.rd hO40.rd (by intro x hx; simp only [List.mem_cons, List.not_mem_nil, or_false] at hx; omega) (by intro x hx; simp only [List.mem_cons, List.not_mem_nil, or_false] at hx; omega) 8 15 0 chi23) ?_
                            rintro _ w41 ⟨rfl, hGw41⟩
                            have hB := ext_trans hB hGw41
                            refine WL.move rfl rfl ?_
                            refine WL.extract rfl rfl rfl ?_
                            refine WL.extract rfl rfl rfl ?_
                            refine WL.extract rfl rfl rfl ?_
                            refine WL.assign rfl rfl ?_
                            refine WL.assign rfl rfl ?_
                            refine WL.assign rfl rfl ?_
                            refine WL.done ?_
                            refine W.seq ?_
                            refine W.seq ?_
                            refine W.region ?_
                            refine WL.move rfl rfl ?_
                            refine WL.neq rfl rfl rfl (fun c42 => ?_) (fun c42 => ?_)
                            · exfalso
                              omega
                            · refine WL.move rfl rfl ?_
                              refine WL.take rfl ?_
                              refine WL.move rfl rfl ?_
                              refine WL.take rfl ?_
                              refine WL.neq rfl rfl rfl (fun c43 => ?_) (fun c43 => ?_)
                              · exfalso
                                omega
                              · refine WL.pick rfl rfl rfl ?_
                                refine WL.move rfl rfl ?_
                                refine WL.take rfl ?_
                                refine WL.move rfl rfl ?_
                                refine WL.take rfl ?_
                                refine WL.neq rfl rfl rfl (fun c44 => ?_) (fun c44 => ?_)
                                · exfalso
                                  omega
                                · refine WL.pick rfl rfl rfl ?_
                                  refine WL.move rfl rfl ?_
                                  refine WL.take rfl ?_
                                  refine WL.move rfl rfl ?_
                                  refine WL.take rfl ?_
                                  refine WL.neq rfl rfl rfl (fun c45 => ?_) (fun c45 => ?_)
                                  · exfalso
                                    omega
                                  · refine WL.pick rfl rfl rfl ?_
                                    refine WL.move rfl rfl ?_
                                    refine WL.take rfl ?_
                                    refine WL.move rfl rfl ?_
                                    refine WL.take rfl ?_
                                    refine WL.neq rfl rfl rfl (fun c46 => ?_) (fun c46 => ?_)
                                    · exfalso
                                      omega
                                    · refine WL.pick rfl rfl rfl ?_
                                      refine WL.move rfl rfl ?_
                                      refine WL.take rfl ?_
                                      refine WL.move rfl rfl ?_
                                      refine WL.take rfl ?_
                                      refine WL.neq rfl rfl rfl (fun c47 => ?_) (fun c47 => ?_)
                                      · exfalso
                                        omega
                                      · refine WL.pick rfl rfl rfl ?_
                                        refine WL.move rfl rfl ?_
                                        refine WL.take rfl ?_
                                        refine WL.move rfl rfl ?_
                                        refine WL.take rfl ?_
                                        refine WL.neq rfl rfl rfl (fun c48 => ?_) (fun c48 => ?_)
                                        · exfalso
                                          omega
                                        · refine WL.pick rfl rfl rfl ?_
                                          refine WL.move rfl rfl ?_
                                          refine WL.take rfl ?_
                                          refine WL.move rfl rfl ?_
                                          refine WL.take rfl ?_
                                          refine WL.neq rfl rfl rfl (fun c49 => ?_) (fun c49 => ?_)
                                          · exfalso
                                            omega
                                          · refine WL.pick rfl rfl rfl ?_
                                            refine WL.move rfl rfl ?_
                                            refine WL.take rfl ?_
                                            refine WL.move rfl rfl ?_
                                            refine WL.take rfl ?_
                                            refine WL.neq rfl rfl rfl (fun c50 => ?_) (fun c50 => ?_)
                                            · exfalso
                                              omega
                                            · refine WL.pick rfl rfl rfl ?_
                                              refine WL.done ?_
                                              refine W.condF rfl ?_
                                              refine W.skip ?_
                                              refine W.seq ?_
                                              refine W.region ?_
                                              refine WL.call Try.func17 rfl Try.nm17 rfl rfl (Exp_c (by omega) (by omega) (by omega)) ?_
                                              rintro _ w51 ⟨rfl, hGw51⟩
                                              have hB := ext_trans hB hGw51
                                              rw [show (expS 2 16 65536).1 = 65536 from by decide +kernel, show (expS 2 16 65536).2 = 0 from by decide +kernel]
                                              refine WL.move rfl rfl ?_
                                              refine WL.extract rfl rfl rfl ?_
                                              refine WL.extract rfl rfl rfl ?_
                                              refine WL.assign rfl rfl ?_
                                              refine WL.assign rfl rfl ?_
                                              refine WL.done ?_
                                              refine W.seq ?_
                                              refine W.region ?_
                                              refine WL.call Try.func16 rfl Try.nm16 rfl rfl (Choose_c (by omega) (by omega) (by omega)) ?_
                                              rintro _ w52 ⟨rfl, hGw52⟩
                                              have hB := ext_trans hB hGw52
                                              rw [show (chooseS 5 2 100).1 = 10 from by decide +kernel, show (chooseS 5 2 100).2 = 0 from by decide +kernel]
                                              refine WL.move rfl rfl ?_
                                              refine WL.extract rfl rfl rfl ?_
                                              refine WL.extract rfl rfl rfl ?_
                                              refine WL.assign rfl rfl ?_
                                              refine WL.assign rfl rfl ?_
                                              refine WL.done ?_
                                              refine W.seq ?_
                                              refine W.region ?_
                                              refine WL.call Try.func64 rfl Try.nm64 rfl rfl (Product_c (Rd.nil (B := 0) (by simp [maxLen]) : Rd 0 _ 1 none 0 0 (is [])) (by omega) ILim.nil) ?_
                                              rintro _ w53 ⟨rfl, hGw53⟩
                                              have hB := ext_trans hB hGw53
                                              rw [show (prodS 10 []).1 = 1 from by decide +kernel, show (prodS 10 []).2 = 0 from by decide +kernel]
                                              refine WL.move rfl rfl ?_
                                              refine WL.extract rfl rfl rfl ?_
                                              refine WL.extract rfl rfl rfl ?_
                                              refine WL.assign rfl rfl ?_
                                              refine WL.assign rfl rfl ?_
                                              refine WL.done ?_
                                              refine W.seq ?_
                                              refine W.region ?_
                                              refine WL.call Try.func17 rfl Try.nm17 rfl rfl (Exp_c (by omega) (by omega) (by omega)) ?_
                                              rintro _ w54 ⟨rfl, hGw54⟩
                                              have hB := ext_trans hB hGw54
                                              rw [show (expS 2 17 65536).1 = 0 from by decide +kernel, show (expS 2 17 65536).2 = 8 from by decide +kernel]
                                              refine WL.move rfl rfl ?_
                                              refine WL.extract rfl rfl rfl ?_
                                              refine WL.extract rfl rfl rfl ?_
                                              refine WL.assign rfl rfl ?_
                                              refine WL.done ?_
                                              refine W.seq ?_
                                              refine W.region ?_
                                              refine WL.move rfl rfl ?_
                                              refine WL.eql rfl rfl rfl (fun c55 => ?_) (fun c55 => ?_)
                                              · refine WL.move rfl rfl ?_
                                                refine WL.take rfl ?_
                                                refine WL.move rfl rfl ?_
                                                refine WL.take rfl ?_
                                                refine WL.eql rfl rfl rfl (fun c56 => ?_) (fun c56 => ?_)
                                                · refine WL.pick rfl rfl rfl ?_
                                                  refine WL.move rfl rfl ?_
                                                  refine WL.take rfl ?_
                                                  refine WL.move rfl rfl ?_
                                                  refine WL.take rfl ?_
                                                  refine WL.eql rfl rfl rfl (fun c57 => ?_) (fun c57 => ?_)
                                                  · refine WL.pick rfl rfl rfl ?_
                                                    refine WL.move rfl rfl ?_
                                                    refine WL.take rfl ?_
                                                    refine WL.move rfl rfl ?_
                                                    refine WL.take rfl ?_
                                                    refine WL.eql rfl rfl rfl (fun c58 => ?_) (fun c58 => ?_)
                                                    · refine WL.pick rfl rfl rfl ?_
                                                      refine WL.move rfl rfl ?_
                                                      refine WL.take rfl ?_
                                                      refine WL.move rfl rfl ?_
                                                      refine WL.take rfl ?_
                                                      refine WL.eql rfl rfl rfl (fun c59 => ?_) (fun c59 => ?_)
                                                      · refine WL.pick rfl rfl rfl ?_
                                                        refine WL.move rfl rfl ?_
                                                        refine WL.take rfl ?_
                                                        refine WL.move rfl rfl ?_
                                                        refine WL.take rfl ?_
                                                        refine WL.eql rfl rfl rfl (fun c60 => ?_) (fun c60 => ?_)
                                                        · refine WL.pick rfl rfl rfl ?_
                                                          refine WL.move rfl rfl ?_
                                                          refine WL.take rfl ?_
                                                          refine WL.move rfl rfl ?_
                                                          refine WL.take rfl ?_
                                                          refine WL.eql rfl rfl rfl (fun c61 => ?_) (fun c61 => ?_)
                                                          · refine WL.pick rfl rfl rfl ?_
                                                            refine WL.move rfl rfl ?_
                                                            refine WL.take rfl ?_
                                                            refine WL.call Try.func65 rfl Try.nm65 rfl rfl (Prime_c (by omega)) ?_
                                                            rintro _ w62 ⟨bz5, rfl, hGw62, z5_t, z5_f⟩
                                                            have hB := ext_trans hB hGw62
                                                            rcases bz5 with _ | _
                                                            · exfalso
                                                              have z5 := z5_f rfl
                                                              exact z5 ⟨by decide, by decide, .of_lt (by decide) (by decide) (by decide)⟩
                                                            · have z5 := z5_t rfl
                                                              refine WL.pick rfl rfl rfl ?_
                                                              refine WL.move rfl rfl ?_
                                                              refine WL.take rfl ?_
                                                              refine WL.call Try.func65 rfl Try.nm65 rfl rfl (Prime_c (by omega)) ?_
                                                              rintro _ w63 ⟨bz1, rfl, hGw63, z1_t, z1_f⟩
                                                              have hB := ext_trans hB hGw63
                                                              rcases bz1 with _ | _
                                                              · have z1 := z1_f rfl
                                                                refine WL.take rfl ?_
                                                                refine WL.not rfl rfl ?_
                                                                refine WL.pick rfl rfl rfl ?_
                                                                refine WL.assign rfl rfl ?_
                                                                refine WL.done ?_
                                                                refine W.ret ?_
                                                                refine ⟨_, rfl, ?_⟩
                                                                exact ⟨rfl, hB⟩
                                                              · exfalso
                                                                have z1 := z1_t rfl
                                                                exact absurd z1.1 (by decide)
                                                          · exfalso
                                                            omega
                                                        · exfalso
                                                          omega
                                                      · exfalso
                                                        omega
                                                    · exfalso
                                                      omega
                                                  · exfalso
                                                    omega
                                                · exfalso
                                                  omega
                                              · exfalso
                                                omega
end Go.Proofs.Ytdmgbahognfhbab
set_option linter.unusedSimpArgs false
set_option linter.unusedVariables false
namespace Go.Proofs.Ytdmgbahognfhbab
open Go.RowKit
structure ChiOk (rs ms : List Int) (X Q : Nat) : Prop where
  len : rs.length = ms.length
  rng : ∀ m ∈ ms, 1 ≤ m ∧ m ≤ 2147483647
  lt : X < Q
  all : ∀ j, j < ms.length → (X : Int) % ms.getD j 0 = rs.getD j 0 % ms.getD j 0
  uniq : ∀ z : Int, 0 ≤ z → z < Q → (∀ j, j < ms.length → z.tmod (ms.getD j 0) = (X : Int).tmod (ms.getD j 0)) → z = X
end Go.Proofs.Ytdmgbahognfhbab
set_option linter.unusedSimpArgs false
set_option linter.unusedVariables false
namespace Go.Proofs.Ytdmgbahognfhbab
open Go.RowKit
/-! ### products of prime powers -/
def ppv : List (Nat × Nat) → Nat | [] => 1 | (p, e) :: L => p ^ e * ppv L
/-! ### divisors -/
structure Dv (n : Nat) (D : List Int) : Prop where
  mem : ∀ k : Int, k ∈ D ↔ 0 < k ∧ k.toNat ∣ n
  srt : D.Pairwise (· < ·)
theorem srt_uniq : ∀ {A B : List Int}, A.Pairwise (· < ·) → B.Pairwise (· < ·) → (∀ k, k ∈ A ↔ k ∈ B) → A = B
  | [], [], _, _, _ => rfl
  | [], b :: B, _, _, h => absurd ((h b).2 List.mem_cons_self) (by simp)
  | a :: A, [], _, _, h => absurd ((h a).1 List.mem_cons_self) (by simp)
  | a :: A, b :: B, hA, hB, h => by
    have hA' := List.pairwise_cons.1 hA
    have hB' := List.pairwise_cons.1 hB
    have hab : a = b := by
      have h1 := (h a).1 List.mem_cons_self
      have h2 := (h b).2 List.mem_cons_self
      rcases List.mem_cons.1 h1 with h3 | h3
      · exact h3
      · rcases List.mem_cons.1 h2 with h4 | h4
        · exact h4.symm
        · have := hB'.1 a h3; have := hA'.1 b h4; omega
    subst hab
    rw [srt_uniq hA'.2 hB'.2 fun k => ?_]
    constructor
    · intro hk
      have := hA'.1 k hk
      rcases List.mem_cons.1 ((h k).1 (List.mem_cons_of_mem _ hk)) with h3 | h3
      · omega
      · exact h3
    · intro hk
      have := hB'.1 k hk
      rcases List.mem_cons.1 ((h k).2 (List.mem_cons_of_mem _ hk)) with h3 | h3
      · omega
      · exact h3
theorem Dv.uniq {n : Nat} {D E : List Int} (h : Dv n D) (h' : Dv n E) : D = E := srt_uniq h.srt h'.srt fun k => by rw [h.mem, h'.mem]
structure LowOk (n d : Nat) (D : List Int) : Prop where
  mem : ∀ k : Int, k ∈ D ↔ 0 < k ∧ k < d ∧ k.toNat ∣ n
  srt : D.Pairwise (· < ·)
structure HighOk (n d : Nat) (D : List Int) : Prop where
  mem : ∀ k : Int, k ∈ D ↔ ∃ c : Nat, 0 < c ∧ c < d ∧ c ∣ n ∧ c ≠ n / c ∧ k = ((n / c : Nat) : Int)
  srt : D.Pairwise (· > ·)
theorem LowOk.nil (n : Nat) : LowOk n 1 [] := ⟨fun k => ⟨fun h => (by cases h), fun h => (by omega)⟩, .nil⟩
theorem HighOk.nil (n : Nat) : HighOk n 1 [] := ⟨fun k => ⟨fun h => (by cases h), fun ⟨c, h⟩ => (by omega)⟩, .nil⟩
theorem LowOk.skip {n d : Nat} {D : List Int} (h : LowOk n d D) (hd : n % d ≠ 0) : LowOk n (d + 1) D := ⟨fun k => by
  rw [h.mem]
  constructor
  · rintro ⟨a, b, c⟩; exact ⟨a, by omega, c⟩
  · rintro ⟨a, b, c⟩
    refine ⟨a, ?_, c⟩
    rcases Int.lt_or_le k d with h1 | h1
    · exact h1
    · have hk : k.toNat = d := by omega
      rw [hk] at c; exact absurd (Nat.mod_eq_zero_of_dvd c) hd, h.srt⟩
theorem LowOk.add {n d : Nat} {D : List Int} (h : LowOk n d D) (h0 : 0 < d) (hd : n % d = 0) : LowOk n (d + 1) (D ++ [(d : Int)]) := ⟨fun k => by
  rw [List.mem_append, h.mem, List.mem_singleton]
  constructor
  · rintro (⟨a, b, c⟩ | rfl)
    · exact ⟨a, by omega, c⟩
    · exact ⟨by omega, by omega, by rw [Int.toNat_natCast]; exact Nat.dvd_of_mod_eq_zero hd⟩
  · rintro ⟨a, b, c⟩
    rcases Int.lt_or_le k d with h1 | h1
    · exact .inl ⟨a, h1, c⟩
    · exact .inr (by omega), by
  rw [List.pairwise_append]
  refine ⟨h.srt, by simp, fun a ha b hb => ?_⟩
  rw [List.mem_singleton] at hb
  have := ((h.mem a).1 ha).2.1
  omega⟩
theorem HighOk.skip {n d : Nat} {D : List Int} (h : HighOk n d D) (hd : n % d ≠ 0 ∨ d = n / d) : HighOk n (d + 1) D := ⟨fun k => by
  rw [h.mem]
  constructor
  · rintro ⟨c, a, b, e, f, g⟩; exact ⟨c, a, by omega, e, f, g⟩
  · rintro ⟨c, a, b, e, f, g⟩
    refine ⟨c, a, ?_, e, f, g⟩
    rcases Nat.lt_or_ge c d with h1 | h1
    · exact h1
    · have hk : c = d := by omega
      subst hk
      rcases hd with hd | hd
      · exact absurd (Nat.mod_eq_zero_of_dvd e) hd
      · exact absurd hd f, h.srt⟩
theorem div_anti {n c d : Nat} (hn : 0 < n) (hc : c ∣ n) (hd : d ∣ n) (h : c < d) : n / d < n / c := by
  obtain ⟨x, hx⟩ := hc
  obtain ⟨y, hy⟩ := hd
  have hc0 : 0 < c := Nat.pos_of_ne_zero (fun h1 => by subst h1; simp at *; omega)
  have hy0 : 0 < y := Nat.pos_of_ne_zero (fun h1 => by subst h1; simp at *; omega)
  have e1 : n / c = x := by rw [hx]; exact Nat.mul_div_cancel_left _ hc0
  have e2 : n / d = y := by rw [hy]; exact Nat.mul_div_cancel_left _ (by omega)
  rw [e1, e2]
  rcases Nat.lt_or_ge y x with h1 | h1
  · exact h1
  · have h2 : c * x ≤ c * y := Nat.mul_le_mul_left c h1
    have h3 : c * y < d * y := Nat.mul_lt_mul_of_pos_right h hy0
    omega
theorem HighOk.add {n d : Nat} {D : List Int} (h : HighOk n d D) (hn : 0 < n) (h0 : 0 < d) (hd : n % d = 0) (hne : d ≠ n / d) : HighOk n (d + 1) (D ++ [((n / d : Nat) : Int)]) := ⟨fun k => by
  rw [List.mem_append, h.mem, List.mem_singleton]
  constructor
  · rintro (⟨c, a, b, e, f, g⟩ | rfl)
    · exact ⟨c, a, by omega, e, f, g⟩
    · exact ⟨d, h0, by omega, Nat.dvd_of_mod_eq_zero hd, hne, rfl⟩
  · rintro ⟨c, a, b, e, f, g⟩
    rcases Nat.lt_or_ge c d with h1 | h1
    · exact .inl ⟨c, a, h1, e, f, g⟩
    · have hk : c = d := by omega
      subst hk; exact .inr g, by
  rw [List.pairwise_append]
  refine ⟨h.srt, by simp, fun a ha b hb => ?_⟩
  rw [List.mem_singleton] at hb
  obtain ⟨c, h1, h2, h3, h4, h5⟩ := (h.mem a).1 ha
  have := div_anti hn h3 (Nat.dvd_of_mod_eq_zero hd) h2
  show a > b
  omega⟩
theorem Dv.of {n d : Nat} {A B : List Int} (hA : LowOk n d A) (hB : HighOk n d B) (hn : 0 < n) (h1 : n < d * d) (h2 : (d - 1) * (d - 1) ≤ n) : Dv n (A ++ B.reverse) := by
  have key : ∀ c x : Nat, 0 < c → c < d → n = c * x → c ≠ x → d ≤ x := by
    intro c x hc hcd hx hne
    rcases Nat.lt_or_ge x d with h3 | h3
    · exfalso
      -- c x = n ≥ (d - 1)², c, x ≤ d - 1, so c = x = d - 1
      rcases Nat.lt_or_ge c (d - 1) with h4 | h4
      · have h5 : c * x ≤ c * (d - 1) := Nat.mul_le_mul_left c (by omega)
        have h6 : c * (d - 1) < (d - 1) * (d - 1) := Nat.mul_lt_mul_of_pos_right h4 (by omega)
        omega
      · have hc2 : c = d - 1 := by omega
        rcases Nat.lt_or_ge x (d - 1) with h5 | h5
        · have h6 : c * x < c * (d - 1) := Nat.mul_lt_mul_of_pos_left h5 hc
          have h7 : c * (d - 1) ≤ (d - 1) * (d - 1) := Nat.mul_le_mul_right _ (by omega)
          omega
        · omega
    · exact h3
  refine ⟨fun k => ?_, ?_⟩
  · rw [List.mem_append, List.mem_reverse, hA.mem, hB.mem]
    constructor
    · rintro (⟨a, b, c⟩ | ⟨c, a, b, e, f, rfl⟩)
      · exact ⟨a, c⟩
      · obtain ⟨x, hx⟩ := e
        have e1 : n / c = x := by rw [hx]; exact Nat.mul_div_cancel_left _ a
        rw [e1, Int.toNat_natCast]
        refine ⟨?_, ⟨c, by rw [hx, Nat.mul_comm]⟩⟩
        rcases Nat.eq_zero_or_pos x with h3 | h3
        · subst h3; omega
        · omega
    · rintro ⟨a, c⟩
      rcases Int.lt_or_le k d with h3 | h3
      · exact .inl ⟨a, h3, c⟩
      · obtain ⟨x, hx⟩ := c
        have hx0 : 0 < x := Nat.pos_of_ne_zero (fun h4 => by subst h4; simp at *; omega)
        have hxd : x < d := by
          rcases Nat.lt_or_ge x d with h4 | h4
          · exact h4
          · have := Nat.mul_le_mul (show d ≤ k.toNat by omega) h4; omega
        have e1 : n / x = k.toNat := by rw [hx]; exact Nat.mul_div_cancel _ hx0
        exact .inr ⟨x, hx0, hxd, ⟨k.toNat, by rw [hx, Nat.mul_comm]⟩, by rw [e1]; omega, by rw [e1]; omega⟩
  · rw [List.pairwise_append, List.pairwise_reverse]
    refine ⟨hA.srt, hB.srt, fun a ha b hb => ?_⟩
    rw [List.mem_reverse] at hb
    have h3 := (hA.mem a).1 ha
    obtain ⟨c, h4, h5, h6, h7, rfl⟩ := (hB.mem b).1 hb
    obtain ⟨x, hx⟩ := h6
    have e1 : n / c = x := by rw [hx]; exact Nat.mul_div_cancel_left _ h4
    rw [e1] at h7 ⊢
    have := key c x h4 h5 hx h7
    omega
end Go.Proofs.Ytdmgbahognfhbab
namespace Go.Proofs.Ytdmgbahognfhbab
end Go.Proofs.Ytdmgbahognfhbab
namespace Go.Proofs.Ytdmgbahognfhbab
end Go.Proofs.Ytdmgbahognfhbab
namespace Go.Proofs.Ytdmgbahognfhbab
/-! ### rows of binomial coefficients -/
theorem chs {v m : Nat} (hv : v ≤ 60) : (chooseS ((v : Nat) : Int) ((m : Nat) : Int) 4611686018427387904).1 = choose v m ∧ (chooseS ((v : Nat) : Int) ((m : Nat) : Int) 4611686018427387904).2 = 0 := by
  have h1 := choose_pow v m
  have h2 : 2 ^ v ≤ 2 ^ 60 := Nat.pow_le_pow_right (by decide) hv
  rcases Nat.lt_or_ge v m with h | h
  · rw [chooseS_zero (by omega) (by omega), choose_big h]; exact ⟨rfl, rfl⟩
  · have := @chooseS_pos v m 4611686018427387904 h
    rw [show ((4611686018427387904 : Nat) : Int) = 4611686018427387904 from rfl] at this
    rw [this, prS_ok (by omega)]; exact ⟨rfl, rfl⟩
theorem exs {v : Nat} (hv : v ≤ 60) : (expS 2 ((v : Nat) : Int) 4611686018427387904).1 = 2 ^ v ∧ (expS 2 ((v : Nat) : Int) 4611686018427387904).2 = 0 := by
  have h2 : 2 ^ v ≤ 2 ^ 60 := Nat.pow_le_pow_right (by decide) hv
  have := @expS_pos 2 v 4611686018427387904 (fun h => by cases h)
  rw [show ((4611686018427387904 : Nat) : Int) = 4611686018427387904 from rfl, show ((2 : Nat) : Int) = 2 from rfl] at this
  rw [this, prS_ok (by omega)]; exact ⟨rfl, rfl⟩
theorem brow_sum (v : Nat) : sumTo (choose v) (v + 1) = 2 ^ v := by
  have := binom 1 v
  rw [show (1 + 1 : Nat) = 2 from rfl] at this
  rw [this]
  exact sumTo_congr fun i _ => by rw [Nat.one_pow, Nat.mul_one]
theorem brow_le (v : Nat) {i : Nat} (h : i ≤ v + 1) : sumTo (choose v) i ≤ 2 ^ v := by rw [← brow_sum]; exact sumTo_le _ h
end Go.Proofs.Ytdmgbahognfhbab
set_option linter.unusedSimpArgs false
set_option linter.unusedVariables false
namespace Go.Proofs.Ytdmgbahognfhbab
open Go.RowKit
set_option maxHeartbeats 4000000 in
theorem NumberPascal_c {w : World} (n : Nat) {X : Int} (hX : X = n) (hn : n < 256) (k : Nat) {Y : Int} (hY : Y = k) (hk : k < 256) :
    Calls Try.prog 3 #[.int .u8 X, .int .u8 Y] w fun e w2 => ∃ v, e = .returned v ∧ (fun v w2 => v = .bool true ∧ w.grownBy w2 none) v w2 := by
  have hB := ext_refl w
  refine calls_of_W (vs := [.int .u8 X, .int .u8 Y]) [4] Try.func3 rfl rfl rfl rfl ?_
  refine W.seq ?_
  refine W.region ?_
  refine WL.assign rfl rfl ?_
  refine WL.done ?_
  refine W.seq ?_
  refine W.seq ?_
  refine W.region ?_
  refine WL.call Try.func15 rfl Try.nm15 rfl rfl (awake_c) ?_
  rintro _ w11 ⟨rfl, hGw11⟩
  have hB := ext_trans hB hGw11
  refine WL.not rfl rfl ?_
  refine WL.done ?_
  refine W.condF rfl ?_
  refine W.skip ?_
  refine W.seq ?_
  refine W.region ?_
  refine WL.move rfl rfl ?_
  refine WL.conv (r := X) Try.underlying5 Try.underlying3 rfl (wi64 (by omega) (by omega) (by omega)) rfl ?_
  refine WL.rem (r := ((n % 60 : Nat) : Int)) rfl rfl (by omega) (tmod_nat (by omega) (by omega)) rfl ?_
  refine WL.move rfl rfl ?_
  refine WL.conv (r := Y) Try.underlying5 Try.underlying3 rfl (wi64 (by omega) (by omega) (by omega)) rfl ?_
  refine WL.rem (r := ((k % 60 : Nat) : Int)) rfl rfl (by omega) (tmod_nat (by omega) (by omega)) rfl ?_
  refine WL.assign rfl rfl ?_
  refine WL.assign rfl rfl ?_
  refine WL.done ?_
  refine W.seq ?_
  refine W.region ?_
  refine WL.move rfl rfl ?_
  refine WL.move rfl rfl ?_
  refine WL.call Try.func16 rfl Try.nm16 rfl rfl (Choose_c (by omega) (by omega) (by omega)) ?_
  rintro _ w12 ⟨rfl, hGw12⟩
  have hB := ext_trans hB hGw12
  rw [(chs (v := n % 60) (m := k % 60) (by omega)).1, (chs (v := n % 60) (m := k % 60) (by omega)).2]
  refine WL.move rfl rfl ?_
  refine WL.extract rfl rfl rfl ?_
  refine WL.extract rfl rfl rfl ?_
  refine WL.assign rfl rfl ?_
  refine WL.assign rfl rfl ?_
  refine WL.done ?_
  refine W.seq ?_
  refine W.region ?_
  refine WL.move rfl rfl ?_
  refine WL.move rfl rfl ?_
  refine WL.add (r := (((k % 60) + 1 : Nat) : Int)) rfl rfl (wi64 (by omega) (by omega) (by omega)) rfl ?_
  refine WL.call Try.func16 rfl Try.nm16 rfl rfl (Choose_c (by omega) (by omega) (by omega)) ?_
  rintro _ w13 ⟨rfl, hGw13⟩
  have hB := ext_trans hB hGw13
  rw [(chs (v := n % 60) (m := k % 60 + 1) (by omega)).1, (chs (v := n % 60) (m := k % 60 + 1) (by omega)).2]
  refine WL.move rfl rfl ?_
  refine WL.extract rfl rfl rfl ?_
  refine WL.extract rfl rfl rfl ?_
  refine WL.assign rfl rfl ?_
  refine WL.assign rfl rfl ?_
  refine WL.done ?_
  refine W.seq ?_
  refine W.region ?_
  refine WL.move rfl rfl ?_
  refine WL.add (r := (((n % 60) + 1 : Nat) : Int)) rfl rfl (wi64 (by omega) (by omega) (by omega)) rfl ?_
  refine WL.move rfl rfl ?_
  refine WL.add (r := (((k % 60) + 1 : Nat) : Int)) rfl rfl (wi64 (by omega) (by omega) (by omega)) rfl ?_
  refine WL.call Try.func16 rfl Try.nm16 rfl rfl (Choose_c (by omega) (by omega) (by omega)) ?_
  rintro _ w14 ⟨rfl, hGw14⟩
  have hB := ext_trans hB hGw14
  rw [(chs (v := n % 60 + 1) (m := k % 60 + 1) (by omega)).1, (chs (v := n % 60 + 1) (m := k % 60 + 1) (by omega)).2]
  refine WL.move rfl rfl ?_
  refine WL.extract rfl rfl rfl ?_
  refine WL.extract rfl rfl rfl ?_
  refine WL.assign rfl rfl ?_
  refine WL.assign rfl rfl ?_
  refine WL.done ?_
  refine W.seq ?_
  refine W.seq ?_
  refine W.region ?_
  have q1 := choose_pow (n % 60) (k % 60)
  have q2 := choose_pow (n % 60) (k % 60 + 1)
  have q3 := choose_succ (n % 60) (k % 60)
  have q4 : 2 ^ (n % 60) ≤ 2 ^ 59 := Nat.pow_le_pow_right (by decide) (by omega)
  refine WL.move rfl rfl ?_
  refine WL.neq rfl rfl rfl (fun c15 => ?_) (fun c15 => ?_)
  · exfalso
    omega
  · refine WL.move rfl rfl ?_
    refine WL.take rfl ?_
    refine WL.move rfl rfl ?_
    refine WL.take rfl ?_
    refine WL.neq rfl rfl rfl (fun c16 => ?_) (fun c16 => ?_)
    · exfalso
      omega
    · refine WL.pick rfl rfl rfl ?_
      refine WL.move rfl rfl ?_
      refine WL.take rfl ?_
      refine WL.move rfl rfl ?_
      refine WL.take rfl ?_
      refine WL.neq rfl rfl rfl (fun c17 => ?_) (fun c17 => ?_)
      · exfalso
        omega
      · refine WL.pick rfl rfl rfl ?_
        refine WL.move rfl rfl ?_
        refine WL.take rfl ?_
        refine WL.move rfl rfl ?_
        refine WL.take rfl ?_
        refine WL.move rfl rfl ?_
        refine WL.take rfl ?_
        refine WL.add (r := (((choose (n % 60) (k % 60)) + (choose (n % 60) (k % 60 + 1)) : Nat) : Int)) rfl rfl (wi64 (by omega) (by omega) (by omega)) rfl ?_
        refine WL.take rfl ?_
        refine WL.move rfl rfl ?_
        refine WL.take rfl ?_
        refine WL.neq rfl rfl rfl (fun c18 => ?_) (fun c18 => ?_)
        · exfalso
          omega
        · refine WL.pick rfl rfl rfl ?_
          refine WL.done ?_
          refine W.condF rfl ?_
          refine W.skip ?_
          refine W.seq ?_
          refine W.region ?_
          refine WL.assign rfl rfl ?_
          refine WL.done ?_
          refine W.seq ?_
          refine W.seq ?_
          refine W.region ?_
          have hs0 : sumTo (choose (n % 60)) 0 = 0 := rfl
          refine WL.assign rfl rfl ?_
          refine WL.done ?_
          refine W.block ?_
          refine W.loop (σ := Nat) (fun i w1 => w.grownBy w1 none ∧ i ≤ n % 60 + 1) (fun i => [(5, .int .i64 ((n % 60 : Nat) : Int)), (13, .int .i64 ((sumTo (choose (n % 60)) i : Nat) : Int)), (14, .int .i64 ((i : Nat) : Int))]) (fun i => n % 60 + 1 - i) 0 ?_ ?_ ?_
          · exact ⟨hB, by omega⟩
          · exact ⟨iv (by omega), iv (by omega), iv (by omega), trivial⟩
          · rintro i w19 ⟨hB, hi⟩
            have hsm := brow_le (n % 60) hi
            refine W.seq ?_
            refine W.seq ?_
            refine W.region ?_
            refine WL.move rfl rfl ?_
            refine WL.move rfl rfl ?_
            refine WL.leq rfl rfl rfl (fun c20 => ?_) (fun c20 => ?_)
            · refine WL.done ?_
              refine W.condT rfl ?_
              refine W.skip ?_
              refine W.seq ?_
              refine W.block ?_
              refine W.seq ?_
              refine W.region ?_
              refine WL.move rfl rfl ?_
              refine WL.move rfl rfl ?_
              refine WL.call Try.func16 rfl Try.nm16 rfl rfl (Choose_c (by omega) (by omega) (by omega)) ?_
              rintro _ w21 ⟨rfl, hGw21⟩
              have hB := ext_trans hB hGw21
              rw [(chs (v := n % 60) (m := i) (by omega)).1, (chs (v := n % 60) (m := i) (by omega)).2]
              refine WL.move rfl rfl ?_
              refine WL.extract rfl rfl rfl ?_
              refine WL.extract rfl rfl rfl ?_
              refine WL.assign rfl rfl ?_
              refine WL.assign rfl rfl ?_
              refine WL.done ?_
              refine W.seq ?_
              refine W.region ?_
              refine WL.move rfl rfl ?_
              refine WL.move rfl rfl ?_
              refine WL.move rfl rfl ?_
              refine WL.sub (r := ((n % 60 - i : Nat) : Int)) rfl rfl (wi64 (by omega) (by omega) (by omega)) rfl ?_
              refine WL.call Try.func16 rfl Try.nm16 rfl rfl (Choose_c (by omega) (by omega) (by omega)) ?_
              rintro _ w22 ⟨rfl, hGw22⟩
              have hB := ext_trans hB hGw22
              rw [(chs (v := n % 60) (m := n % 60 - i) (by omega)).1, (chs (v := n % 60) (m := n % 60 - i) (by omega)).2, choose_symm (by omega)]
              have q5 := choose_pow (n % 60) i
              have q6 : sumTo (choose (n % 60)) (i + 1) = sumTo (choose (n % 60)) i + choose (n % 60) i := rfl
              have q7 := brow_le (n % 60) (show i + 1 ≤ n % 60 + 1 by omega)
              refine WL.move rfl rfl ?_
              refine WL.extract rfl rfl rfl ?_
              refine WL.extract rfl rfl rfl ?_
              refine WL.assign rfl rfl ?_
              refine WL.assign rfl rfl ?_
              refine WL.done ?_
              refine W.seq ?_
              refine W.seq ?_
              refine W.region ?_
              refine WL.move rfl rfl ?_
              refine WL.neq rfl rfl rfl (fun c23 => ?_) (fun c23 => ?_)
              · exfalso
                omega
              · refine WL.move rfl rfl ?_
                refine WL.take rfl ?_
                refine WL.move rfl rfl ?_
                refine WL.take rfl ?_
                refine WL.neq rfl rfl rfl (fun c24 => ?_) (fun c24 => ?_)
                · exfalso
                  omega
                · refine WL.pick rfl rfl rfl ?_
                  refine WL.move rfl rfl ?_
                  refine WL.take rfl ?_
                  refine WL.move rfl rfl ?_
                  refine WL.take rfl ?_
                  refine WL.move rfl rfl ?_
                  refine WL.take rfl ?_
                  refine WL.neq rfl rfl rfl (fun c25 => ?_) (fun c25 => ?_)
                  · exfalso
                    exact c25 rfl
                  · refine WL.pick rfl rfl rfl ?_
                    refine WL.move rfl rfl ?_
                    refine WL.take rfl ?_
                    refine WL.move rfl rfl ?_
                    refine WL.take rfl ?_
                    refine WL.lss rfl rfl rfl (fun c26 => ?_) (fun c26 => ?_)
                    · exfalso
                      omega
                    · refine WL.pick rfl rfl rfl ?_
                      refine WL.move rfl rfl ?_
                      refine WL.take rfl ?_
                      refine WL.move rfl rfl ?_
                      refine WL.take rfl ?_
                      refine WL.gtr rfl rfl rfl (fun c27 => ?_) (fun c27 => ?_)
                      · exfalso
                        omega
                      · refine WL.pick rfl rfl rfl ?_
                        refine WL.done ?_
                        refine W.condF rfl ?_
                        refine W.skip ?_
                        refine W.region ?_
                        refine WL.move rfl rfl ?_
                        refine WL.move rfl rfl ?_
                        refine WL.add (r := ((sumTo (choose (n % 60)) (i + 1) : Nat) : Int)) rfl rfl (wi64 (by omega) (by omega) (by omega)) rfl ?_
                        refine WL.assign rfl rfl ?_
                        refine WL.done ?_
                        refine W.region ?_
                        refine WL.move rfl rfl ?_
                        refine WL.add (r := ((i + 1 : Nat) : Int)) rfl rfl (wi64 (by omega) (by omega) (by omega)) rfl ?_
                        refine WL.assign rfl rfl ?_
                        refine WL.done ?_
                        refine ⟨i + 1, ⟨iv (by omega), iv (by omega), iv (by omega), trivial⟩, by omega, ?_⟩
                        exact ⟨hB, by omega⟩
            · refine WL.done ?_
              refine W.condF rfl ?_
              refine W.exit ?_
              refine W.seq ?_
              refine W.region ?_
              refine WL.move rfl rfl ?_
              refine WL.call Try.func17 rfl Try.nm17 rfl rfl (Exp_c (by omega) (by omega) (by omega)) ?_
              rintro _ w28 ⟨rfl, hGw28⟩
              have hB := ext_trans hB hGw28
              have hie : i = n % 60 + 1 := by omega
              rw [(exs (v := n % 60) (by omega)).1, (exs (v := n % 60) (by omega)).2, ← brow_sum, ← hie]
              refine WL.move rfl rfl ?_
              refine WL.extract rfl rfl rfl ?_
              refine WL.extract rfl rfl rfl ?_
              refine WL.assign rfl rfl ?_
              refine WL.assign rfl rfl ?_
              refine WL.done ?_
              refine W.seq ?_
              refine W.region ?_
              refine WL.move rfl rfl ?_
              refine WL.eql rfl rfl rfl (fun c29 => ?_) (fun c29 => ?_)
              · refine WL.move rfl rfl ?_
                refine WL.take rfl ?_
                refine WL.move rfl rfl ?_
                refine WL.take rfl ?_
                refine WL.move rfl rfl ?_
                refine WL.take rfl ?_
                refine WL.eql rfl rfl rfl (fun c30 => ?_) (fun c30 => ?_)
                · refine WL.pick rfl rfl rfl ?_
                  refine WL.assign rfl rfl ?_
                  refine WL.done ?_
                  refine W.ret ?_
                  refine ⟨_, rfl, ?_⟩
                  exact ⟨rfl, hB⟩
                · exfalso
                  exact c30 rfl
              · exfalso
                omega
end Go.Proofs.Ytdmgbahognfhbab
set_option linter.unusedSimpArgs false
set_option linter.unusedVariables false
namespace Go.Proofs.Ytdmgbahognfhbab
open Go.ChangeShapes Go.WideShapes Go.ChangeAt Go.RowKit
end Go.Proofs.Ytdmgbahognfhbab
namespace Go.Proofs.Ytdmgbahognfhbab
end Go.Proofs.Ytdmgbahognfhbab
