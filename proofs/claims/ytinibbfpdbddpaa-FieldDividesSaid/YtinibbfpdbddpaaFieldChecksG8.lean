/- Contracts of functions of the program, and what they lean on: D8. -/
import Derived.Test.YtinibbfpdbddpaaFieldChecksG7
set_option linter.unusedSimpArgs false
set_option linter.unusedVariables false
namespace Go.Proofs.Ytinibbfpdbddpaa
open Go.RowKit
def V_FieldChecks (Pf : Int) (Mf : Int) (mf : List Int) (x : Int) (Q : Bool → Prop) : Prop :=
  V_alive  (fun r14 => (((!r14) = true) → Q false) ∧ ((!r14) = false → (V_rCheck Pf Mf mf (fun r17 => V_New Pf Mf mf (fun q => match q with | (none, r20) => V_check Pf Mf mf (fun r28 => ((r28 ≠ r17) → Q false) ∧ (¬ (r28 ≠ r17) → (((r20 ≠ r17) → Q false) ∧ (¬ (r20 ≠ r17) → (((r17 ≠ (0 : Int)) → Q true) ∧ (¬ (r17 ≠ (0 : Int)) → Q false)))))) | (some F21, r20) => V_check Pf Mf mf (fun r65 => ((r65 ≠ r17) → Q false) ∧ (¬ (r65 ≠ r17) → (((r20 ≠ r17) → Q false) ∧ (¬ (r20 ≠ r17) → (((r17 ≠ (0 : Int)) → Q true) ∧ (¬ (r17 ≠ (0 : Int)) → (∃ (r74 : Int) (r75 : Int) (x76 : List Int), V_field F21 (fun q => q = (r74, r75, x76)) ∧ ((V_same r74 r75 x76 Pf Mf mf (fun q => q = true)) ∧ (∃ (r93 : Int) (r94 : Int) (x95 : List Int), V_field F21 (fun q => q = (r93, r94, x95)) ∧ ((V_rSame r93 r94 x95 Pf Mf mf (fun q => q = true)) ∧ (∃ (r112 : Int), V_Order F21 (fun q => q = r112) ∧ (∃ (r117 : Int), V_rOrder Pf Mf mf (fun q => q = r117) ∧ ((r112 = r117) ∧ (∃ (r127 : Bool), V_Is F21 x (fun q => q = r127) ∧ (∃ (r133 : Bool), V_rIs Pf Mf mf x (fun q => q = r133) ∧ (Q (r127 == r133))))))))))))))))))))))
theorem ok_FieldChecks {w : World} {Q : Bool → Prop} {Pf : Int} {Mf : Int} {mf : List Int} {x : Int} {Bf : Nat} {Af : Option Addr} {nf kf : Nat} (hf : Rd Bf w 1 Af nf kf (is mf)) (hv : V_FieldChecks Pf Mf mf x Q) :
    Calls Try.prog 3 #[.agg #[.int .i64 Pf, .int .i64 Mf, .slice Af nf kf], .int .i64 x] w fun e w' => ∃ v Qr, e = .returned v ∧ w.grownBy w' none ∧ Rows w.heap.size none w' Qr ∧ News w.heap.size Qr ∧ ∃ (r0 : Bool), v = .bool r0 ∧ Qr = [] ∧ Q r0 := by
  have hnf := hf.ilen
  subst hnf
  refine calls_swap ?_
  refine calls_of_W (vs := [.agg #[.int .i64 Pf, .int .i64 Mf, .slice Af mf.length kf], .int .i64 x]) [4] Try.func3 rfl rfl rfl rfl ?_
  have hS := St.start w
  unfold V_FieldChecks at hv
  refine W.seq ?_
  refine W.region ?_
  refine SL.box (z := 3) (cs := [.int .i64 Pf, .int .i64 Mf, .slice Af mf.length kf]) hS rfl rfl rfl rfl ?_
  intro g11 w12 hS
  refine WL.assign rfl rfl ?_
  refine WL.done ?_
  refine W.seq ?_
  refine W.seq ?_
  refine W.region ?_
  refine SL.call hS (ok_alive  hv) Try.func17 rfl Try.nm17 rfl rfl ?_
  rintro _ _ w13 ⟨r14, rfl, rfl, hv⟩ hGw13 hS
  change St _ _ _ _ [.row 24 3 (some ⟨g11, 0, none⟩) 1 1 [.int .i64 Pf, .int .i64 Mf, .slice Af mf.length kf]] at hS
  refine WL.not rfl rfl ?_
  refine WL.done ?_
  refine W.cond2 rfl (fun c15 => ?_) (fun c15 => ?_)
  · have hv := hv.1 (c15)
    refine W.seq ?_
    refine W.region ?_
    refine WL.assign rfl rfl ?_
    refine WL.done ?_
    refine W.ret ?_
    refine ⟨_, rfl, Fin.nil ?_⟩
    exact ⟨_, hS.ext, (hS.pick [] rfl).rows, News.of (hS.pick [] rfl).rows rfl, ⟨false, rfl, rfl, hv⟩⟩
  · have hv := hv.2 (c15)
    refine W.skip ?_
    refine W.seq ?_
    refine W.region ?_
    refine WL.loadV (cs := [.int .i64 Pf, .int .i64 Mf, .slice Af mf.length kf]) Try.el24 Try.agg24 rfl rfl (Own.vcells (hS.own (i := 0) rfl)) rfl ?_
    refine SL.call hS (ok_rCheck (hS.ro hf) hv) Try.func18 rfl Try.nm18 rfl rfl ?_
    rintro _ _ w16 ⟨r17, rfl, rfl, hv⟩ hGw16 hS
    change St _ _ _ _ [.row 24 3 (some ⟨g11, 0, none⟩) 1 1 [.int .i64 Pf, .int .i64 Mf, .slice Af mf.length kf]] at hS
    refine WL.assign rfl rfl ?_
    refine WL.done ?_
    refine W.seq ?_
    refine W.region ?_
    refine WL.loadV (cs := [.int .i64 Pf, .int .i64 Mf, .slice Af mf.length kf]) Try.el24 Try.agg24 rfl rfl (Own.vcells (hS.own (i := 0) rfl)) rfl ?_
    refine SL.call hS (ok_New (hS.ro hf) hv) Try.func19 rfl Try.nm19 rfl rfl ?_
    rintro _ _ w19 ⟨o, r20, hv, hK⟩ hGw19 hS
    cases o with
    | none =>
      obtain ⟨rfl, rfl⟩ := hK
      change St _ _ _ _ [.row 24 3 (some ⟨g11, 0, none⟩) 1 1 [.int .i64 Pf, .int .i64 Mf, .slice Af mf.length kf]] at hS
      refine WL.move rfl rfl ?_
      refine WL.extract rfl rfl rfl ?_
      refine WL.extract rfl rfl rfl ?_
      refine WL.assign rfl rfl ?_
      refine WL.assign rfl rfl ?_
      refine WL.done ?_
      refine W.seq ?_
      refine W.seq ?_
      refine W.region ?_
      refine WL.loadV (cs := [.int .i64 Pf, .int .i64 Mf, .slice Af mf.length kf]) Try.el24 Try.agg24 rfl rfl (Own.vcells (hS.own (i := 0) rfl)) rfl ?_
      refine SL.call hS (ok_check (hS.ro hf) hv) Try.func20 rfl Try.nm20 rfl rfl ?_
      rintro _ _ w27 ⟨r28, rfl, rfl, hv⟩ hGw27 hS
      change St _ _ _ _ [.row 24 3 (some ⟨g11, 0, none⟩) 1 1 [.int .i64 Pf, .int .i64 Mf, .slice Af mf.length kf]] at hS
      refine WL.move rfl rfl ?_
      refine WL.neqD rfl rfl rfl ?_
      refine WL.move rfl rfl ?_
      by_cases g29 : r28 ≠ r17
      · have hv := hv.1 g29
        rw [decide_eq_true g29]
        refine WL.pass rfl rfl rfl ?_
        refine WL.pass rfl rfl rfl ?_
        refine WL.pass rfl rfl rfl ?_
        refine WL.pick rfl rfl rfl ?_
        refine WL.done ?_
        refine W.condT rfl ?_
        refine W.seq ?_
        refine W.region ?_
        refine WL.assign rfl rfl ?_
        refine WL.done ?_
        refine W.ret ?_
        refine ⟨_, rfl, Fin.nil ?_⟩
        exact ⟨_, hS.ext, (hS.pick [] rfl).rows, News.of (hS.pick [] rfl).rows rfl, ⟨false, rfl, rfl, hv⟩⟩
      · have hv := hv.2 g29
        rw [decide_eq_false g29]
        refine WL.take rfl ?_
        refine WL.move rfl rfl ?_
        refine WL.take rfl ?_
        refine WL.move rfl rfl ?_
        refine WL.take rfl ?_
        refine WL.neqD rfl rfl rfl ?_
        refine WL.pick rfl rfl rfl ?_
        refine WL.done ?_
        refine W.cond2 rfl (fun c30 => ?_) (fun c30 => ?_)
        · have hv := hv.1 (of_decide_eq_true c30)
          refine W.seq ?_
          refine W.region ?_
          refine WL.assign rfl rfl ?_
          refine WL.done ?_
          refine W.ret ?_
          refine ⟨_, rfl, Fin.nil ?_⟩
          exact ⟨_, hS.ext, (hS.pick [] rfl).rows, News.of (hS.pick [] rfl).rows rfl, ⟨false, rfl, rfl, hv⟩⟩
        · have hv := hv.2 (of_decide_eq_false c30)
          refine W.skip ?_
          refine W.seq ?_
          refine W.seq ?_
          refine W.region ?_
          refine WL.move rfl rfl ?_
          refine WL.neqD rfl rfl rfl ?_
          refine WL.done ?_
          refine W.cond2 rfl (fun c31 => ?_) (fun c31 => ?_)
          · have hv := hv.1 (of_decide_eq_true c31)
            refine W.seq ?_
            refine W.region ?_
            refine WL.assign rfl rfl ?_
            refine WL.done ?_
            refine W.ret ?_
            refine ⟨_, rfl, Fin.nil ?_⟩
            exact ⟨_, hS.ext, (hS.pick [] rfl).rows, News.of (hS.pick [] rfl).rows rfl, ⟨true, rfl, rfl, hv⟩⟩
          · have hv := hv.2 (of_decide_eq_false c31)
            refine W.skip ?_
            refine W.seq ?_
            have hS0 := hS
            refine W.drawX 31 (fun _ => false) (fun _ => none) [⟨[], [6], true⟩, ⟨[0], [], true⟩, ⟨[1], [], true⟩, ⟨[2], [6], true⟩, ⟨[2, 3], [], false⟩, ⟨[2], [2], false⟩, ⟨[2, 4, 5], [], false⟩, ⟨[2, 6], [], true⟩, ⟨[7], [], true⟩, ⟨[8], [6], true⟩, ⟨[8, 9], [], false⟩, ⟨[8], [2], false⟩, ⟨[8, 10, 11], [], false⟩, ⟨[8, 12], [], true⟩, ⟨[13], [], true⟩, ⟨[14], [6], true⟩, ⟨[14, 15], [], false⟩, ⟨[14], [2], false⟩, ⟨[14, 17], [], false⟩, ⟨[14, 16, 18], [], true⟩, ⟨[14, 19], [], true⟩, ⟨[20], [], true⟩, ⟨[21], [6], true⟩, ⟨[21], [1], true⟩, ⟨[21, 22, 23], [], false⟩, ⟨[21], [2], false⟩, ⟨[21], [1], true⟩, ⟨[21, 25, 26], [], false⟩, ⟨[21, 24, 27], [], true⟩, ⟨[21, 28], [], true⟩, ⟨[29], [], true⟩] [[(6, .pointer none)], [], [], [(6, .pointer none)], [], [(2, .pointer (some ⟨g11, 0, none⟩))], [], [], [], [(6, .pointer none)], [], [(2, .pointer (some ⟨g11, 0, none⟩))], [], [], [], [(6, .pointer none)], [], [(2, .pointer (some ⟨g11, 0, none⟩))], [], [], [], [], [(6, .pointer none)], [(1, .int .i64 x)], [], [(2, .pointer (some ⟨g11, 0, none⟩))], [(1, .int .i64 x)], [], [], [], []] (fun iQ => [fun v _ => v = .pointer none, fun v _ => v = .bool false, fun v _ => v = .bool false, fun v _ => v = undef, fun v _ => v = undef, fun v _ => v = undef, fun v _ => v = undef, fun v _ => v = .bool false, fun v _ => v = .bool false, fun v _ => v = undef, fun v _ => v = undef, fun v _ => v = undef, fun v _ => v = undef, fun v _ => v = .bool false, fun v _ => v = .bool false, fun v _ => v = undef, fun v _ => v = undef, fun v _ => v = undef, fun v _ => v = undef, fun v _ => v = undef, fun v _ => v = .bool false, fun v _ => v = .bool false, fun v _ => v = undef, fun v _ => v = undef, fun v _ => v = undef, fun v _ => v = undef, fun v _ => v = undef, fun v _ => v = undef, fun v _ => v = undef, fun v _ => v = .bool false, fun v _ => v = .bool false].getD iQ (fun _ _ => True)) Try.mixed (by kernel_rfl) ?_ (by kernel_rfl) ?_ ?_
            · refine Vs_monoT _ ?_
              intro VQ hVQ vQ wQ1 wQ2 hQ1 hQ2
              simp only [List.mem_cons, List.not_mem_nil, or_false] at hVQ
              rcases hVQ with rfl | rfl | rfl | rfl | rfl | rfl | rfl | rfl | rfl | rfl | rfl | rfl | rfl | rfl | rfl | rfl | rfl | rfl | rfl | rfl | rfl | rfl | rfl | rfl | rfl | rfl | rfl | rfl | rfl | rfl | rfl
              · exact hQ1
              · exact hQ1
              · exact hQ1
              · exact hQ1
              · exact hQ1
              · exact hQ1
              · exact hQ1
              · exact hQ1
              · exact hQ1
              · exact hQ1
              · exact hQ1
              · exact hQ1
              · exact hQ1
              · exact hQ1
              · exact hQ1
              · exact hQ1
              · exact hQ1
              · exact hQ1
              · exact hQ1
              · exact hQ1
              · exact hQ1
              · exact hQ1
              · exact hQ1
              · exact hQ1
              · exact hQ1
              · exact hQ1
              · exact hQ1
              · exact hQ1
              · exact hQ1
              · exact hQ1
              · exact hQ1
            · refine ⟨⟨rfl, ⟨rfl, trivial⟩, ?_⟩, ⟨rfl, trivial, ?_⟩, ⟨rfl, trivial, ?_⟩, ⟨rfl, ⟨rfl, trivial⟩, ?_⟩, ⟨rfl, trivial, ?_⟩, ⟨rfl, ⟨rfl, trivial⟩, ?_⟩, ⟨rfl, trivial, ?_⟩, ⟨rfl, trivial, ?_⟩, ⟨rfl, trivial, ?_⟩, ⟨rfl, ⟨rfl, trivial⟩, ?_⟩, ⟨rfl, trivial, ?_⟩, ⟨rfl, ⟨rfl, trivial⟩, ?_⟩, ⟨rfl, trivial, ?_⟩, ⟨rfl, trivial, ?_⟩, ⟨rfl, trivial, ?_⟩, ⟨rfl, ⟨rfl, trivial⟩, ?_⟩, ⟨rfl, trivial, ?_⟩, ⟨rfl, ⟨rfl, trivial⟩, ?_⟩, ⟨rfl, trivial, ?_⟩, ⟨rfl, trivial, ?_⟩, ⟨rfl, trivial, ?_⟩, ⟨rfl, trivial, ?_⟩, ⟨rfl, ⟨rfl, trivial⟩, ?_⟩, ⟨rfl, ⟨rfl, trivial⟩, ?_⟩, ⟨rfl, trivial, ?_⟩, ⟨rfl, ⟨rfl, trivial⟩, ?_⟩, ⟨rfl, ⟨rfl, trivial⟩, ?_⟩, ⟨rfl, trivial, ?_⟩, ⟨rfl, trivial, ?_⟩, ⟨rfl, trivial, ?_⟩, ⟨rfl, trivial, ?_⟩, trivial⟩
              · intro w32 hE
                intro RR
                refine WL.move rfl rfl ?_
                exact WL.done ⟨_, rfl, rfl, rfl, (fun h => absurd h (by decide)), (fun j h => by cases h)⟩
              · intro w33 hE
                rintro _ rfl
                intro RR
                refine WL.neqPn Try.underlying28 rfl rfl rfl rfl ?_
                exact WL.done ⟨_, rfl, rfl, rfl, (fun h => absurd h (by decide)), (fun j h => by cases h)⟩
              · intro w34 hE
                rintro _ rfl
                intro RR
                refine WL.move rfl rfl ?_
                exact WL.done ⟨_, rfl, rfl, rfl, (fun h => absurd h (by decide)), (fun j h => by cases h)⟩
              · intro w35 hE
                rintro _ rfl
                intro RR
                refine WL.pass rfl rfl rfl ?_
                exact WL.done ⟨_, rfl, rfl, rfl, (fun h => absurd h (by decide)), (fun j h => by cases h)⟩
              · intro w36 hE
                have hE := hE rfl
                have hS := hS.grow hE
                rintro _ rfl
                rintro _ rfl
                intro RR
                refine WL.pass rfl rfl rfl ?_
                exact WL.done ⟨_, rfl, ext_refl _, rfl, (fun h => absurd h (by decide)), (fun j h => by cases h)⟩
              · intro w37 hE
                have hE := hE rfl
                have hS := hS.grow hE
                rintro _ rfl
                intro RR
                refine WL.pass rfl rfl rfl ?_
                exact WL.done ⟨_, rfl, ext_refl _, rfl, (fun h => absurd h (by decide)), (fun j h => by cases h)⟩
              · intro w38 hE
                have hE := hE rfl
                have hS := hS.grow hE
                rintro _ rfl
                rintro _ rfl
                rintro _ rfl
                intro RR
                refine WL.pass rfl rfl rfl ?_
                exact WL.done ⟨_, rfl, ext_refl _, rfl, (fun h => absurd h (by decide)), (fun j h => by cases h)⟩
              · intro w39 hE
                rintro _ rfl
                rintro _ rfl
                intro RR
                refine WL.pick rfl rfl rfl ?_
                exact WL.done ⟨_, rfl, rfl, rfl, (fun h => absurd h (by decide)), (fun j h => by cases h)⟩
              · intro w40 hE
                rintro _ rfl
                intro RR
                refine WL.move rfl rfl ?_
                exact WL.done ⟨_, rfl, rfl, rfl, (fun h => absurd h (by decide)), (fun j h => by cases h)⟩
              · intro w41 hE
                rintro _ rfl
                intro RR
                refine WL.pass rfl rfl rfl ?_
                exact WL.done ⟨_, rfl, rfl, rfl, (fun h => absurd h (by decide)), (fun j h => by cases h)⟩
              · intro w42 hE
                have hE := hE rfl
                have hS := hS.grow hE
                rintro _ rfl
                rintro _ rfl
                intro RR
                refine WL.pass rfl rfl rfl ?_
                exact WL.done ⟨_, rfl, ext_refl _, rfl, (fun h => absurd h (by decide)), (fun j h => by cases h)⟩
              · intro w43 hE
                have hE := hE rfl
                have hS := hS.grow hE
                rintro _ rfl
                intro RR
                refine WL.pass rfl rfl rfl ?_
                exact WL.done ⟨_, rfl, ext_refl _, rfl, (fun h => absurd h (by decide)), (fun j h => by cases h)⟩
              · intro w44 hE
                have hE := hE rfl
                have hS := hS.grow hE
                rintro _ rfl
                rintro _ rfl
                rintro _ rfl
                intro RR
                refine WL.pass rfl rfl rfl ?_
                exact WL.done ⟨_, rfl, ext_refl _, rfl, (fun h => absurd h (by decide)), (fun j h => by cases h)⟩
              · intro w45 hE
                rintro _ rfl
                rintro _ rfl
                intro RR
                refine WL.pick rfl rfl rfl ?_
                exact WL.done ⟨_, rfl, rfl, rfl, (fun h => absurd h (by decide)), (fun j h => by cases h)⟩
              · intro w46 hE
                rintro _ rfl
                intro RR
                refine WL.move rfl rfl ?_
                exact WL.done ⟨_, rfl, rfl, rfl, (fun h => absurd h (by decide)), (fun j h => by cases h)⟩
              · intro w47 hE
                rintro _ rfl
                intro RR
                refine WL.pass rfl rfl rfl ?_
                exact WL.done ⟨_, rfl, rfl, rfl, (fun h => absurd h (by decide)), (fun j h => by cases h)⟩
              · intro w48 hE
                have hE := hE rfl
                have hS := hS.grow hE
                rintro _ rfl
                rintro _ rfl
                intro RR
                refine WL.pass rfl rfl rfl ?_
                exact WL.done ⟨_, rfl, ext_refl _, rfl, (fun h => absurd h (by decide)), (fun j h => by cases h)⟩
              · intro w49 hE
                have hE := hE rfl
                have hS := hS.grow hE
                rintro _ rfl
                intro RR
                refine WL.pass rfl rfl rfl ?_
                exact WL.done ⟨_, rfl, ext_refl _, rfl, (fun h => absurd h (by decide)), (fun j h => by cases h)⟩
              · intro w50 hE
                have hE := hE rfl
                have hS := hS.grow hE
                rintro _ rfl
                rintro _ rfl
                intro RR
                refine WL.pass rfl rfl rfl ?_
                exact WL.done ⟨_, rfl, ext_refl _, rfl, (fun h => absurd h (by decide)), (fun j h => by cases h)⟩
              · intro w51 hE
                rintro _ rfl
                rintro _ rfl
                rintro _ rfl
                intro RR
                refine WL.pass rfl rfl rfl ?_
                exact WL.done ⟨_, rfl, rfl, rfl, (fun h => absurd h (by decide)), (fun j h => by cases h)⟩
              · intro w52 hE
                rintro _ rfl
                rintro _ rfl
                intro RR
                refine WL.pick rfl rfl rfl ?_
                exact WL.done ⟨_, rfl, rfl, rfl, (fun h => absurd h (by decide)), (fun j h => by cases h)⟩
              · intro w53 hE
                rintro _ rfl
                intro RR
                refine WL.move rfl rfl ?_
                exact WL.done ⟨_, rfl, rfl, rfl, (fun h => absurd h (by decide)), (fun j h => by cases h)⟩
              · intro w54 hE
                rintro _ rfl
                intro RR
                refine WL.pass rfl rfl rfl ?_
                exact WL.done ⟨_, rfl, rfl, rfl, (fun h => absurd h (by decide)), (fun j h => by cases h)⟩
              · intro w55 hE
                rintro _ rfl
                intro RR
                refine WL.pass rfl rfl rfl ?_
                exact WL.done ⟨_, rfl, rfl, rfl, (fun h => absurd h (by decide)), (fun j h => by cases h)⟩
              · intro w56 hE
                have hE := hE rfl
                have hS := hS.grow hE
                rintro _ rfl
                rintro _ rfl
                rintro _ rfl
                intro RR
                refine WL.pass rfl rfl rfl ?_
                exact WL.done ⟨_, rfl, ext_refl _, rfl, (fun h => absurd h (by decide)), (fun j h => by cases h)⟩
              · intro w57 hE
                have hE := hE rfl
                have hS := hS.grow hE
                rintro _ rfl
                intro RR
                refine WL.pass rfl rfl rfl ?_
                exact WL.done ⟨_, rfl, ext_refl _, rfl, (fun h => absurd h (by decide)), (fun j h => by cases h)⟩
              · intro w58 hE
                rintro _ rfl
                intro RR
                refine WL.pass rfl rfl rfl ?_
                exact WL.done ⟨_, rfl, rfl, rfl, (fun h => absurd h (by decide)), (fun j h => by cases h)⟩
              · intro w59 hE
                have hE := hE rfl
                have hS := hS.grow hE
                rintro _ rfl
                rintro _ rfl
                rintro _ rfl
                intro RR
                refine WL.pass rfl rfl rfl ?_
                exact WL.done ⟨_, rfl, ext_refl _, rfl, (fun h => absurd h (by decide)), (fun j h => by cases h)⟩
              · intro w60 hE
                rintro _ rfl
                rintro _ rfl
                rintro _ rfl
                intro RR
                refine WL.pass rfl rfl rfl ?_
                exact WL.done ⟨_, rfl, rfl, rfl, (fun h => absurd h (by decide)), (fun j h => by cases h)⟩
              · intro w61 hE
                rintro _ rfl
                rintro _ rfl
                intro RR
                refine WL.pick rfl rfl rfl ?_
                exact WL.done ⟨_, rfl, rfl, rfl, (fun h => absurd h (by decide)), (fun j h => by cases h)⟩
              · intro w62 hE
                rintro _ rfl
                intro RR
                refine WL.assign rfl rfl ?_
                exact WL.done ⟨_, rfl, rfl, rfl, (fun h => absurd h (by decide)), (fun j h => by cases h)⟩
            · intro vals w63 hT hVs hAp hCp
              have hS := hS.grow hT
              have hv0 : vals 0 = _ := hVs 0 (by decide)
              have hv1 : vals 1 = _ := hVs 1 (by decide)
              have hv2 : vals 2 = _ := hVs 2 (by decide)
              have hv3 : vals 3 = _ := hVs 3 (by decide)
              have hv4 : vals 4 = _ := hVs 4 (by decide)
              have hv5 : vals 5 = _ := hVs 5 (by decide)
              have hv6 : vals 6 = _ := hVs 6 (by decide)
              have hv7 : vals 7 = _ := hVs 7 (by decide)
              have hv8 : vals 8 = _ := hVs 8 (by decide)
              have hv9 : vals 9 = _ := hVs 9 (by decide)
              have hv10 : vals 10 = _ := hVs 10 (by decide)
              have hv11 : vals 11 = _ := hVs 11 (by decide)
              have hv12 : vals 12 = _ := hVs 12 (by decide)
              have hv13 : vals 13 = _ := hVs 13 (by decide)
              have hv14 : vals 14 = _ := hVs 14 (by decide)
              have hv15 : vals 15 = _ := hVs 15 (by decide)
              have hv16 : vals 16 = _ := hVs 16 (by decide)
              have hv17 : vals 17 = _ := hVs 17 (by decide)
              have hv18 : vals 18 = _ := hVs 18 (by decide)
              have hv19 : vals 19 = _ := hVs 19 (by decide)
              have hv20 : vals 20 = _ := hVs 20 (by decide)
              have hv21 : vals 21 = _ := hVs 21 (by decide)
              have hv22 : vals 22 = _ := hVs 22 (by decide)
              have hv23 : vals 23 = _ := hVs 23 (by decide)
              have hv24 : vals 24 = _ := hVs 24 (by decide)
              have hv25 : vals 25 = _ := hVs 25 (by decide)
              have hv26 : vals 26 = _ := hVs 26 (by decide)
              have hv27 : vals 27 = _ := hVs 27 (by decide)
              have hv28 : vals 28 = _ := hVs 28 (by decide)
              have hv29 : vals 29 = _ := hVs 29 (by decide)
              have hv30 : vals 30 = _ := hVs 30 (by decide)
              rw [show (List.filterMap (fun i => Option.map (fun t => (t, vals i)) (dstAt _ i)) (List.range _)) = [(28, .pointer none), (29, .bool false), (30, .bool false), (31, undef), (32, undef), (33, undef), (34, undef), (35, .bool false), (36, .bool false), (37, undef), (38, undef), (39, undef), (40, undef), (41, .bool false), (42, .bool false), (43, undef), (44, undef), (45, undef), (46, undef), (47, undef), (48, .bool false), (49, .bool false), (50, undef), (51, undef), (52, undef), (53, undef), (54, undef), (55, undef), (56, undef), (57, .bool false), (4, .bool false)] from by
                show [(28, vals 0), (29, vals 1), (30, vals 2), (31, vals 3), (32, vals 4), (33, vals 5), (34, vals 6), (35, vals 7), (36, vals 8), (37, vals 9), (38, vals 10), (39, vals 11), (40, vals 12), (41, vals 13), (42, vals 14), (43, vals 15), (44, vals 16), (45, vals 17), (46, vals 18), (47, vals 19), (48, vals 20), (49, vals 21), (50, vals 22), (51, vals 23), (52, vals 24), (53, vals 25), (54, vals 26), (55, vals 27), (56, vals 28), (57, vals 29), (4, vals 30)] = _
                rw [hv0, hv1, hv2, hv3, hv4, hv5, hv6, hv7, hv8, hv9, hv10, hv11, hv12, hv13, hv14, hv15, hv16, hv17, hv18, hv19, hv20, hv21, hv22, hv23, hv24, hv25, hv26, hv27, hv28, hv29, hv30]]
              refine WA.done (by decide +kernel) ?_
              refine W.ret ?_
              refine ⟨_, rfl, Fin.nil ?_⟩
              exact ⟨_, hS.ext, (hS.pick [] rfl).rows, News.of (hS.pick [] rfl).rows rfl, ⟨false, rfl, rfl, hv⟩⟩
    | some F21 =>
      obtain ⟨ad22, lo23, hi24, rfl, rfl⟩ := hK
      change St _ _ _ _ [.ch lo23 hi24 (fun wz => GFX lo23 hi24 wz ad22 F21), .row 24 3 (some ⟨g11, 0, none⟩) 1 1 [.int .i64 Pf, .int .i64 Mf, .slice Af mf.length kf]] at hS
      refine WL.move rfl rfl ?_
      refine WL.extract rfl rfl rfl ?_
      refine WL.extract rfl rfl rfl ?_
      refine WL.assign rfl rfl ?_
      refine WL.assign rfl rfl ?_
      refine WL.done ?_
      refine W.seq ?_
      refine W.seq ?_
      refine W.region ?_
      refine WL.loadV (cs := [.int .i64 Pf, .int .i64 Mf, .slice Af mf.length kf]) Try.el24 Try.agg24 rfl rfl (Own.vcells (hS.own (i := 1) rfl)) rfl ?_
      refine SL.call hS (ok_check (hS.ro hf) hv) Try.func20 rfl Try.nm20 rfl rfl ?_
      rintro _ _ w64 ⟨r65, rfl, rfl, hv⟩ hGw64 hS
      change St _ _ _ _ [.ch lo23 hi24 (fun wz => GFX lo23 hi24 wz ad22 F21), .row 24 3 (some ⟨g11, 0, none⟩) 1 1 [.int .i64 Pf, .int .i64 Mf, .slice Af mf.length kf]] at hS
      refine WL.move rfl rfl ?_
      refine WL.neqD rfl rfl rfl ?_
      refine WL.move rfl rfl ?_
      by_cases g66 : r65 ≠ r17
      · have hv := hv.1 g66
        rw [decide_eq_true g66]
        refine WL.pass rfl rfl rfl ?_
        refine WL.pass rfl rfl rfl ?_
        refine WL.pass rfl rfl rfl ?_
        refine WL.pick rfl rfl rfl ?_
        refine WL.done ?_
        refine W.condT rfl ?_
        refine W.seq ?_
        refine W.region ?_
        refine WL.assign rfl rfl ?_
        refine WL.done ?_
        refine W.ret ?_
        refine ⟨_, rfl, Fin.nil ?_⟩
        exact ⟨_, hS.ext, (hS.pick [] rfl).rows, News.of (hS.pick [] rfl).rows rfl, ⟨false, rfl, rfl, hv⟩⟩
      · have hv := hv.2 g66
        rw [decide_eq_false g66]
        refine WL.take rfl ?_
        refine WL.move rfl rfl ?_
        refine WL.take rfl ?_
        refine WL.move rfl rfl ?_
        refine WL.take rfl ?_
        refine WL.neqD rfl rfl rfl ?_
        refine WL.pick rfl rfl rfl ?_
        refine WL.done ?_
        refine W.cond2 rfl (fun c67 => ?_) (fun c67 => ?_)
        · have hv := hv.1 (of_decide_eq_true c67)
          refine W.seq ?_
          refine W.region ?_
          refine WL.assign rfl rfl ?_
          refine WL.done ?_
          refine W.ret ?_
          refine ⟨_, rfl, Fin.nil ?_⟩
          exact ⟨_, hS.ext, (hS.pick [] rfl).rows, News.of (hS.pick [] rfl).rows rfl, ⟨false, rfl, rfl, hv⟩⟩
        · have hv := hv.2 (of_decide_eq_false c67)
          refine W.skip ?_
          refine W.seq ?_
          refine W.seq ?_
          refine W.region ?_
          refine WL.move rfl rfl ?_
          refine WL.neqD rfl rfl rfl ?_
          refine WL.done ?_
          refine W.cond2 rfl (fun c68 => ?_) (fun c68 => ?_)
          · have hv := hv.1 (of_decide_eq_true c68)
            refine W.seq ?_
            refine W.region ?_
            refine WL.assign rfl rfl ?_
            refine WL.done ?_
            refine W.ret ?_
            refine ⟨_, rfl, Fin.nil ?_⟩
            exact ⟨_, hS.ext, (hS.pick [] rfl).rows, News.of (hS.pick [] rfl).rows rfl, ⟨true, rfl, rfl, hv⟩⟩
          · have hv := hv.2 (of_decide_eq_false c68)
            refine W.skip ?_
            refine W.seq ?_
            obtain ⟨r74, r75, x76, o83, hv⟩ := hv
            obtain ⟨o88, hv⟩ := hv
            obtain ⟨r93, r94, x95, o102, hv⟩ := hv
            obtain ⟨o107, hv⟩ := hv
            obtain ⟨r112, o114, hv⟩ := hv
            obtain ⟨r117, o119, hv⟩ := hv
            obtain ⟨o121, hv⟩ := hv
            obtain ⟨r127, o129, hv⟩ := hv
            obtain ⟨r133, o135, hv⟩ := hv
            have hS0 := hS
            refine W.drawX 31 (fun _ => false) (fun _ => none) [⟨[], [6], true⟩, ⟨[0], [], true⟩, ⟨[1], [], true⟩, ⟨[2], [6], true⟩, ⟨[2, 3], [], false⟩, ⟨[2], [2], false⟩, ⟨[2, 4, 5], [], false⟩, ⟨[2, 6], [], true⟩, ⟨[7], [], true⟩, ⟨[8], [6], true⟩, ⟨[8, 9], [], false⟩, ⟨[8], [2], false⟩, ⟨[8, 10, 11], [], false⟩, ⟨[8, 12], [], true⟩, ⟨[13], [], true⟩, ⟨[14], [6], true⟩, ⟨[14, 15], [], false⟩, ⟨[14], [2], false⟩, ⟨[14, 17], [], false⟩, ⟨[14, 16, 18], [], true⟩, ⟨[14, 19], [], true⟩, ⟨[20], [], true⟩, ⟨[21], [6], true⟩, ⟨[21], [1], true⟩, ⟨[21, 22, 23], [], false⟩, ⟨[21], [2], false⟩, ⟨[21], [1], true⟩, ⟨[21, 25, 26], [], false⟩, ⟨[21, 24, 27], [], true⟩, ⟨[21, 28], [], true⟩, ⟨[29], [], true⟩] [[(6, .pointer (some ad22))], [], [], [(6, .pointer (some ad22))], [], [(2, .pointer (some ⟨g11, 0, none⟩))], [], [], [], [(6, .pointer (some ad22))], [], [(2, .pointer (some ⟨g11, 0, none⟩))], [], [], [], [(6, .pointer (some ad22))], [], [(2, .pointer (some ⟨g11, 0, none⟩))], [], [], [], [], [(6, .pointer (some ad22))], [(1, .int .i64 x)], [], [(2, .pointer (some ⟨g11, 0, none⟩))], [(1, .int .i64 x)], [], [], [], []] (fun iQ => [fun v _ => v = .pointer (some ad22), fun v _ => v = .bool true, fun v _ => v = .bool true, fun v _ => v = .pointer (some ad22), fun v wQ => ∃ A77_4 k78_4, v = .agg #[.int .i64 r74, .int .i64 r75, .slice A77_4 x76.length k78_4] ∧ Own 0 wQ 3 1 A77_4 x76.length k78_4 (is x76) ∧ (∀ g, bl A77_4 = some g → w64.heap.size ≤ g), fun v _ => v = .agg #[.int .i64 Pf, .int .i64 Mf, .slice Af mf.length kf], fun v _ => v = .bool true, fun v _ => v = .bool true, fun v _ => v = .bool true, fun v _ => v = .pointer (some ad22), fun v wQ => ∃ A96_10 k97_10, v = .agg #[.int .i64 r93, .int .i64 r94, .slice A96_10 x95.length k97_10] ∧ Own 0 wQ 3 1 A96_10 x95.length k97_10 (is x95) ∧ (∀ g, bl A96_10 = some g → w64.heap.size ≤ g), fun v _ => v = .agg #[.int .i64 Pf, .int .i64 Mf, .slice Af mf.length kf], fun v _ => v = .bool true, fun v _ => v = .bool true, fun v _ => v = .bool true, fun v _ => v = .pointer (some ad22), fun v _ => v = .int .i64 r112, fun v _ => v = .agg #[.int .i64 Pf, .int .i64 Mf, .slice Af mf.length kf], fun v _ => v = .int .i64 r117, fun v _ => v = .bool true, fun v _ => v = .bool true, fun v _ => v = .bool true, fun v _ => v = .pointer (some ad22), fun v _ => v = .int .i64 x, fun v _ => v = .bool r127, fun v _ => v = .agg #[.int .i64 Pf, .int .i64 Mf, .slice Af mf.length kf], fun v _ => v = .int .i64 x, fun v _ => v = .bool r133, fun v _ => v = .bool (r127 == r133), fun v _ => v = .bool (r127 == r133), fun v _ => v = .bool (r127 == r133)].getD iQ (fun _ _ => True)) Try.mixed (by kernel_rfl) ?_ (by kernel_rfl) ?_ ?_
            · refine Vs_monoT _ ?_
              intro VQ hVQ vQ wQ1 wQ2 hQ1 hQ2
              simp only [List.mem_cons, List.not_mem_nil, or_false] at hVQ
              rcases hVQ with rfl | rfl | rfl | rfl | rfl | rfl | rfl | rfl | rfl | rfl | rfl | rfl | rfl | rfl | rfl | rfl | rfl | rfl | rfl | rfl | rfl | rfl | rfl | rfl | rfl | rfl | rfl | rfl | rfl | rfl | rfl
              · exact hQ1
              · exact hQ1
              · exact hQ1
              · exact hQ1
              · obtain ⟨A77_4, k78_4, hQe, hO81_4, hN82_4⟩ := hQ1
                exact ⟨A77_4, k78_4, hQe, hO81_4.ext hQ2, hN82_4⟩
              · exact hQ1
              · exact hQ1
              · exact hQ1
              · exact hQ1
              · exact hQ1
              · obtain ⟨A96_10, k97_10, hQe, hO100_10, hN101_10⟩ := hQ1
                exact ⟨A96_10, k97_10, hQe, hO100_10.ext hQ2, hN101_10⟩
              · exact hQ1
              · exact hQ1
              · exact hQ1
              · exact hQ1
              · exact hQ1
              · exact hQ1
              · exact hQ1
              · exact hQ1
              · exact hQ1
              · exact hQ1
              · exact hQ1
              · exact hQ1
              · exact hQ1
              · exact hQ1
              · exact hQ1
              · exact hQ1
              · exact hQ1
              · exact hQ1
              · exact hQ1
              · exact hQ1
            · refine ⟨⟨rfl, ⟨rfl, trivial⟩, ?_⟩, ⟨rfl, trivial, ?_⟩, ⟨rfl, trivial, ?_⟩, ⟨rfl, ⟨rfl, trivial⟩, ?_⟩, ⟨rfl, trivial, ?_⟩, ⟨rfl, ⟨rfl, trivial⟩, ?_⟩, ⟨rfl, trivial, ?_⟩, ⟨rfl, trivial, ?_⟩, ⟨rfl, trivial, ?_⟩, ⟨rfl, ⟨rfl, trivial⟩, ?_⟩, ⟨rfl, trivial, ?_⟩, ⟨rfl, ⟨rfl, trivial⟩, ?_⟩, ⟨rfl, trivial, ?_⟩, ⟨rfl, trivial, ?_⟩, ⟨rfl, trivial, ?_⟩, ⟨rfl, ⟨rfl, trivial⟩, ?_⟩, ⟨rfl, trivial, ?_⟩, ⟨rfl, ⟨rfl, trivial⟩, ?_⟩, ⟨rfl, trivial, ?_⟩, ⟨rfl, trivial, ?_⟩, ⟨rfl, trivial, ?_⟩, ⟨rfl, trivial, ?_⟩, ⟨rfl, ⟨rfl, trivial⟩, ?_⟩, ⟨rfl, ⟨rfl, trivial⟩, ?_⟩, ⟨rfl, trivial, ?_⟩, ⟨rfl, ⟨rfl, trivial⟩, ?_⟩, ⟨rfl, ⟨rfl, trivial⟩, ?_⟩, ⟨rfl, trivial, ?_⟩, ⟨rfl, trivial, ?_⟩, ⟨rfl, trivial, ?_⟩, ⟨rfl, trivial, ?_⟩, trivial⟩
              · intro w69 hE
                intro RR
                refine WL.move rfl rfl ?_
                exact WL.done ⟨_, rfl, rfl, rfl, (fun h => absurd h (by decide)), (fun j h => by cases h)⟩
              · intro w70 hE
                rintro _ rfl
                intro RR
                refine WL.neqPn Try.underlying28 rfl rfl rfl rfl ?_
                exact WL.done ⟨_, rfl, rfl, rfl, (fun h => absurd h (by decide)), (fun j h => by cases h)⟩
              · intro w71 hE
                rintro _ rfl
                intro RR
                refine WL.move rfl rfl ?_
                exact WL.done ⟨_, rfl, rfl, rfl, (fun h => absurd h (by decide)), (fun j h => by cases h)⟩
              · intro w72 hE
                rintro _ rfl
                intro RR
                refine WL.take rfl ?_
                refine WL.move rfl rfl ?_
                exact WL.done ⟨_, rfl, rfl, rfl, (fun h => absurd h (by decide)), (fun j h => by cases h)⟩
              · intro w73 hE
                have hE := hE rfl
                have hS := hS.grow hE
                rintro _ rfl
                rintro _ rfl
                intro RR
                refine WL.take rfl ?_
                refine WL.call Try.func22 rfl Try.nm22 rfl rfl (calls_un (ok_field (GFX.gfr (hS.chunk (i := 0) rfl)) o83)) ?_
                rintro _ w80 ⟨_, hGw80, hRww80, hNww80, r74q, r75q, x76q, A77, k78, rfl, rfl, he⟩
                cases he
                have hO81 := (hRww80.get (i := 0) rfl).1
                have hN82 : ∀ g, bl A77 = some g → _ ≤ g := fun g hg => Nat.le_trans hE.size (hNww80.1 g hg)
                exact WL.done ⟨_, rfl, hGw80, ⟨A77, k78, rfl, hO81, hN82⟩, (fun h => absurd h (by decide)), (fun j h => by cases h)⟩
              · intro w84 hE
                have hE := hE rfl
                have hS := hS.grow hE
                rintro _ rfl
                intro RR
                refine WL.take rfl ?_
                refine WL.loadV (cs := [.int .i64 Pf, .int .i64 Mf, .slice Af mf.length kf]) Try.el24 Try.agg24 rfl rfl (Own.vcells (hS.own (i := 1) rfl)) rfl ?_
                exact WL.done ⟨_, rfl, ext_refl _, rfl, (fun h => absurd h (by decide)), (fun j h => by cases h)⟩
              · intro w85 hE
                have hE := hE rfl
                have hS := hS.grow hE
                rintro _ rfl
                rintro _ ⟨A77_4, k78_4, rfl, hO81_4, hN82_4⟩
                rintro _ rfl
                intro RR
                refine WL.take rfl ?_
                refine WL.call Try.func21 rfl Try.nm21 rfl rfl (calls_un (ok_same hO81_4.rd (hS.ro hf) o88)) ?_
                rintro _ w87 ⟨_, hGw87, hRww87, hNww87, r86, rfl, rfl, he⟩
                subst he
                exact WL.done ⟨_, rfl, hGw87, rfl, (fun h => absurd h (by decide)), (fun j h => by cases h)⟩
              · intro w89 hE
                rintro _ rfl
                rintro _ rfl
                intro RR
                refine WL.pick rfl rfl rfl ?_
                exact WL.done ⟨_, rfl, rfl, rfl, (fun h => absurd h (by decide)), (fun j h => by cases h)⟩
              · intro w90 hE
                rintro _ rfl
                intro RR
                refine WL.move rfl rfl ?_
                exact WL.done ⟨_, rfl, rfl, rfl, (fun h => absurd h (by decide)), (fun j h => by cases h)⟩
              · intro w91 hE
                rintro _ rfl
                intro RR
                refine WL.take rfl ?_
                refine WL.move rfl rfl ?_
                exact WL.done ⟨_, rfl, rfl, rfl, (fun h => absurd h (by decide)), (fun j h => by cases h)⟩
              · intro w92 hE
                have hE := hE rfl
                have hS := hS.grow hE
                rintro _ rfl
                rintro _ rfl
                intro RR
                refine WL.take rfl ?_
                refine WL.call Try.func22 rfl Try.nm22 rfl rfl (calls_un (ok_field (GFX.gfr (hS.chunk (i := 0) rfl)) o102)) ?_
                rintro _ w99 ⟨_, hGw99, hRww99, hNww99, r93q, r94q, x95q, A96, k97, rfl, rfl, he⟩
                cases he
                have hO100 := (hRww99.get (i := 0) rfl).1
                have hN101 : ∀ g, bl A96 = some g → _ ≤ g := fun g hg => Nat.le_trans hE.size (hNww99.1 g hg)
                exact WL.done ⟨_, rfl, hGw99, ⟨A96, k97, rfl, hO100, hN101⟩, (fun h => absurd h (by decide)), (fun j h => by cases h)⟩
              · intro w103 hE
                have hE := hE rfl
                have hS := hS.grow hE
                rintro _ rfl
                intro RR
                refine WL.take rfl ?_
                refine WL.loadV (cs := [.int .i64 Pf, .int .i64 Mf, .slice Af mf.length kf]) Try.el24 Try.agg24 rfl rfl (Own.vcells (hS.own (i := 1) rfl)) rfl ?_
                exact WL.done ⟨_, rfl, ext_refl _, rfl, (fun h => absurd h (by decide)), (fun j h => by cases h)⟩
              · intro w104 hE
                have hE := hE rfl
                have hS := hS.grow hE
                rintro _ rfl
                rintro _ ⟨A96_10, k97_10, rfl, hO100_10, hN101_10⟩
                rintro _ rfl
                intro RR
                refine WL.take rfl ?_
                refine WL.call Try.func23 rfl Try.nm23 rfl rfl (calls_un (ok_rSame hO100_10.rd (hS.ro hf) o107)) ?_
                rintro _ w106 ⟨_, hGw106, hRww106, hNww106, r105, rfl, rfl, he⟩
                subst he
                exact WL.done ⟨_, rfl, hGw106, rfl, (fun h => absurd h (by decide)), (fun j h => by cases h)⟩
              · intro w108 hE
                rintro _ rfl
                rintro _ rfl
                intro RR
                refine WL.pick rfl rfl rfl ?_
                exact WL.done ⟨_, rfl, rfl, rfl, (fun h => absurd h (by decide)), (fun j h => by cases h)⟩
              · intro w109 hE
                rintro _ rfl
                intro RR
                refine WL.move rfl rfl ?_
                exact WL.done ⟨_, rfl, rfl, rfl, (fun h => absurd h (by decide)), (fun j h => by cases h)⟩
              · intro w110 hE
                rintro _ rfl
                intro RR
                refine WL.take rfl ?_
                refine WL.move rfl rfl ?_
                exact WL.done ⟨_, rfl, rfl, rfl, (fun h => absurd h (by decide)), (fun j h => by cases h)⟩
              · intro w111 hE
                have hE := hE rfl
                have hS := hS.grow hE
                rintro _ rfl
                rintro _ rfl
                intro RR
                refine WL.take rfl ?_
                refine WL.call Try.func24 rfl Try.nm24 rfl rfl (calls_un (ok_Order (GFX.gfr (hS.chunk (i := 0) rfl)) o114)) ?_
                rintro _ w113 ⟨_, hGw113, hRww113, hNww113, r112q, rfl, rfl, he⟩
                subst he
                exact WL.done ⟨_, rfl, hGw113, rfl, (fun h => absurd h (by decide)), (fun j h => by cases h)⟩
              · intro w115 hE
                have hE := hE rfl
                have hS := hS.grow hE
                rintro _ rfl
                intro RR
                refine WL.take rfl ?_
                refine WL.loadV (cs := [.int .i64 Pf, .int .i64 Mf, .slice Af mf.length kf]) Try.el24 Try.agg24 rfl rfl (Own.vcells (hS.own (i := 1) rfl)) rfl ?_
                exact WL.done ⟨_, rfl, ext_refl _, rfl, (fun h => absurd h (by decide)), (fun j h => by cases h)⟩
              · intro w116 hE
                have hE := hE rfl
                have hS := hS.grow hE
                rintro _ rfl
                rintro _ rfl
                intro RR
                refine WL.take rfl ?_
                refine WL.call Try.func25 rfl Try.nm25 rfl rfl (calls_un (ok_rOrder (hS.ro hf) o119)) ?_
                rintro _ w118 ⟨_, hGw118, hRww118, hNww118, r117q, rfl, rfl, he⟩
                subst he
                exact WL.done ⟨_, rfl, hGw118, rfl, (fun h => absurd h (by decide)), (fun j h => by cases h)⟩
              · intro w120 hE
                rintro _ rfl
                rintro _ rfl
                rintro _ rfl
                intro RR
                refine WL.take rfl ?_
                refine WL.eqlD rfl rfl rfl ?_; rw [decide_eq_true o121]
                exact WL.done ⟨_, rfl, rfl, rfl, (fun h => absurd h (by decide)), (fun j h => by cases h)⟩
              · intro w122 hE
                rintro _ rfl
                rintro _ rfl
                intro RR
                refine WL.pick rfl rfl rfl ?_
                exact WL.done ⟨_, rfl, rfl, rfl, (fun h => absurd h (by decide)), (fun j h => by cases h)⟩
              · intro w123 hE
                rintro _ rfl
                intro RR
                refine WL.move rfl rfl ?_
                exact WL.done ⟨_, rfl, rfl, rfl, (fun h => absurd h (by decide)), (fun j h => by cases h)⟩
              · intro w124 hE
                rintro _ rfl
                intro RR
                refine WL.take rfl ?_
                refine WL.move rfl rfl ?_
                exact WL.done ⟨_, rfl, rfl, rfl, (fun h => absurd h (by decide)), (fun j h => by cases h)⟩
              · intro w125 hE
                rintro _ rfl
                intro RR
                refine WL.take rfl ?_
                refine WL.move rfl rfl ?_
                exact WL.done ⟨_, rfl, rfl, rfl, (fun h => absurd h (by decide)), (fun j h => by cases h)⟩
              · intro w126 hE
                have hE := hE rfl
                have hS := hS.grow hE
                rintro _ rfl
                rintro _ rfl
                rintro _ rfl
                intro RR
                refine WL.take rfl ?_
                refine WL.call Try.func26 rfl Try.nm26 rfl rfl (calls_un (ok_Is (GFX.gfr (hS.chunk (i := 0) rfl)) o129)) ?_
                rintro _ w128 ⟨_, hGw128, hRww128, hNww128, r127q, rfl, rfl, he⟩
                subst he
                exact WL.done ⟨_, rfl, hGw128, rfl, (fun h => absurd h (by decide)), (fun j h => by cases h)⟩
              · intro w130 hE
                have hE := hE rfl
                have hS := hS.grow hE
                rintro _ rfl
                intro RR
                refine WL.take rfl ?_
                refine WL.loadV (cs := [.int .i64 Pf, .int .i64 Mf, .slice Af mf.length kf]) Try.el24 Try.agg24 rfl rfl (Own.vcells (hS.own (i := 1) rfl)) rfl ?_
                exact WL.done ⟨_, rfl, ext_refl _, rfl, (fun h => absurd h (by decide)), (fun j h => by cases h)⟩
              · intro w131 hE
                rintro _ rfl
                intro RR
                refine WL.take rfl ?_
                refine WL.move rfl rfl ?_
                exact WL.done ⟨_, rfl, rfl, rfl, (fun h => absurd h (by decide)), (fun j h => by cases h)⟩
              · intro w132 hE
                have hE := hE rfl
                have hS := hS.grow hE
                rintro _ rfl
                rintro _ rfl
                rintro _ rfl
                intro RR
                refine WL.take rfl ?_
                refine WL.call Try.func27 rfl Try.nm27 rfl rfl (calls_un (ok_rIs (hS.ro hf) o135)) ?_
                rintro _ w134 ⟨_, hGw134, hRww134, hNww134, r133q, rfl, rfl, he⟩
                subst he
                exact WL.done ⟨_, rfl, hGw134, rfl, (fun h => absurd h (by decide)), (fun j h => by cases h)⟩
              · intro w136 hE
                rintro _ rfl
                rintro _ rfl
                rintro _ rfl
                intro RR
                refine WL.take rfl ?_
                refine WL.eqB (r := (r127 == r133)) rfl rfl Try.underlying4 rfl rfl ?_
                exact WL.done ⟨_, rfl, rfl, rfl, (fun h => absurd h (by decide)), (fun j h => by cases h)⟩
              · intro w137 hE
                rintro _ rfl
                rintro _ rfl
                intro RR
                refine WL.pick rfl rfl rfl ?_
                exact WL.done ⟨_, rfl, rfl, rfl, (fun h => absurd h (by decide)), (fun j h => by cases h)⟩
              · intro w138 hE
                rintro _ rfl
                intro RR
                refine WL.assign rfl rfl ?_
                exact WL.done ⟨_, rfl, rfl, rfl, (fun h => absurd h (by decide)), (fun j h => by cases h)⟩
            · intro vals w139 hT hVs hAp hCp
              have hS := hS.grow hT
              have hv0 : vals 0 = _ := hVs 0 (by decide)
              have hv1 : vals 1 = _ := hVs 1 (by decide)
              have hv2 : vals 2 = _ := hVs 2 (by decide)
              have hv3 : vals 3 = _ := hVs 3 (by decide)
              obtain ⟨A77_4, k78_4, hv4, hO81_4, hN82_4⟩ := hVs 4 (by decide)
              have hv5 : vals 5 = _ := hVs 5 (by decide)
              have hv6 : vals 6 = _ := hVs 6 (by decide)
              have hv7 : vals 7 = _ := hVs 7 (by decide)
              have hv8 : vals 8 = _ := hVs 8 (by decide)
              have hv9 : vals 9 = _ := hVs 9 (by decide)
              obtain ⟨A96_10, k97_10, hv10, hO100_10, hN101_10⟩ := hVs 10 (by decide)
              have hv11 : vals 11 = _ := hVs 11 (by decide)
              have hv12 : vals 12 = _ := hVs 12 (by decide)
              have hv13 : vals 13 = _ := hVs 13 (by decide)
              have hv14 : vals 14 = _ := hVs 14 (by decide)
              have hv15 : vals 15 = _ := hVs 15 (by decide)
              have hv16 : vals 16 = _ := hVs 16 (by decide)
              have hv17 : vals 17 = _ := hVs 17 (by decide)
              have hv18 : vals 18 = _ := hVs 18 (by decide)
              have hv19 : vals 19 = _ := hVs 19 (by decide)
              have hv20 : vals 20 = _ := hVs 20 (by decide)
              have hv21 : vals 21 = _ := hVs 21 (by decide)
              have hv22 : vals 22 = _ := hVs 22 (by decide)
              have hv23 : vals 23 = _ := hVs 23 (by decide)
              have hv24 : vals 24 = _ := hVs 24 (by decide)
              have hv25 : vals 25 = _ := hVs 25 (by decide)
              have hv26 : vals 26 = _ := hVs 26 (by decide)
              have hv27 : vals 27 = _ := hVs 27 (by decide)
              have hv28 : vals 28 = _ := hVs 28 (by decide)
              have hv29 : vals 29 = _ := hVs 29 (by decide)
              have hv30 : vals 30 = _ := hVs 30 (by decide)
              rw [show (List.filterMap (fun i => Option.map (fun t => (t, vals i)) (dstAt _ i)) (List.range _)) = [(28, .pointer (some ad22)), (29, .bool true), (30, .bool true), (31, .pointer (some ad22)), (32, .agg #[.int .i64 r74, .int .i64 r75, .slice A77_4 x76.length k78_4]), (33, .agg #[.int .i64 Pf, .int .i64 Mf, .slice Af mf.length kf]), (34, .bool true), (35, .bool true), (36, .bool true), (37, .pointer (some ad22)), (38, .agg #[.int .i64 r93, .int .i64 r94, .slice A96_10 x95.length k97_10]), (39, .agg #[.int .i64 Pf, .int .i64 Mf, .slice Af mf.length kf]), (40, .bool true), (41, .bool true), (42, .bool true), (43, .pointer (some ad22)), (44, .int .i64 r112), (45, .agg #[.int .i64 Pf, .int .i64 Mf, .slice Af mf.length kf]), (46, .int .i64 r117), (47, .bool true), (48, .bool true), (49, .bool true), (50, .pointer (some ad22)), (51, .int .i64 x), (52, .bool r127), (53, .agg #[.int .i64 Pf, .int .i64 Mf, .slice Af mf.length kf]), (54, .int .i64 x), (55, .bool r133), (56, .bool (r127 == r133)), (57, .bool (r127 == r133)), (4, .bool (r127 == r133))] from by
                show [(28, vals 0), (29, vals 1), (30, vals 2), (31, vals 3), (32, vals 4), (33, vals 5), (34, vals 6), (35, vals 7), (36, vals 8), (37, vals 9), (38, vals 10), (39, vals 11), (40, vals 12), (41, vals 13), (42, vals 14), (43, vals 15), (44, vals 16), (45, vals 17), (46, vals 18), (47, vals 19), (48, vals 20), (49, vals 21), (50, vals 22), (51, vals 23), (52, vals 24), (53, vals 25), (54, vals 26), (55, vals 27), (56, vals 28), (57, vals 29), (4, vals 30)] = _
                rw [hv0, hv1, hv2, hv3, hv4, hv5, hv6, hv7, hv8, hv9, hv10, hv11, hv12, hv13, hv14, hv15, hv16, hv17, hv18, hv19, hv20, hv21, hv22, hv23, hv24, hv25, hv26, hv27, hv28, hv29, hv30]]
              refine WA.done (by decide +kernel) ?_
              refine W.ret ?_
              refine ⟨_, rfl, Fin.nil ?_⟩
              exact ⟨_, hS.ext, (hS.pick [] rfl).rows, News.of (hS.pick [] rfl).rows rfl, ⟨(r127 == r133), rfl, rfl, hv⟩⟩

def V_FieldSame (Pf : Int) (Mf : Int) (mf : List Int) (Ph : Int) (Mh : Int) (mh : List Int) (Q : Bool → Prop) : Prop :=
  V_alive  (fun r16 => (((!r16) = true) → Q false) ∧ ((!r16) = false → (∃ (r21 : Bool), V_same Pf Mf mf Ph Mh mh (fun q => q = r21) ∧ (∃ (r27 : Bool), V_rSame Pf Mf mf Ph Mh mh (fun q => q = r27) ∧ (((r21 == r27) = true) ∧ ((V_same Pf Mf mf Pf Mf mf (fun q => q = true)) ∧ (∃ (r44 : Bool), V_same Ph Mh mh Pf Mf mf (fun q => q = r44) ∧ (∃ (r50 : Bool), V_same Pf Mf mf Ph Mh mh (fun q => q = r50) ∧ (Q (r44 == r50))))))))))
theorem ok_FieldSame {w : World} {Q : Bool → Prop} {Pf : Int} {Mf : Int} {mf : List Int} {Ph : Int} {Mh : Int} {mh : List Int} {Bf : Nat} {Af : Option Addr} {nf kf : Nat} (hf : Rd Bf w 1 Af nf kf (is mf)) {Bh : Nat} {Ah : Option Addr} {nh kh : Nat} (hh : Rd Bh w 1 Ah nh kh (is mh)) (hv : V_FieldSame Pf Mf mf Ph Mh mh Q) :
    Calls Try.prog 4 #[.agg #[.int .i64 Pf, .int .i64 Mf, .slice Af nf kf], .agg #[.int .i64 Ph, .int .i64 Mh, .slice Ah nh kh]] w fun e w' => ∃ v Qr, e = .returned v ∧ w.grownBy w' none ∧ Rows w.heap.size none w' Qr ∧ News w.heap.size Qr ∧ ∃ (r0 : Bool), v = .bool r0 ∧ Qr = [] ∧ Q r0 := by
  have hnf := hf.ilen
  subst hnf
  have hnh := hh.ilen
  subst hnh
  refine calls_swap ?_
  refine calls_of_W (vs := [.agg #[.int .i64 Pf, .int .i64 Mf, .slice Af mf.length kf], .agg #[.int .i64 Ph, .int .i64 Mh, .slice Ah mh.length kh]]) [4] Try.func4 rfl rfl rfl rfl ?_
  have hS := St.start w
  unfold V_FieldSame at hv
  refine W.seq ?_
  refine W.region ?_
  refine SL.box (z := 3) (cs := [.int .i64 Pf, .int .i64 Mf, .slice Af mf.length kf]) hS rfl rfl rfl rfl ?_
  intro g11 w12 hS
  refine SL.box (z := 3) (cs := [.int .i64 Ph, .int .i64 Mh, .slice Ah mh.length kh]) hS rfl rfl rfl rfl ?_
  intro g13 w14 hS
  refine WL.assign rfl rfl ?_
  refine WL.done ?_
  refine W.seq ?_
  refine W.seq ?_
  refine W.region ?_
  refine SL.call hS (ok_alive  hv) Try.func17 rfl Try.nm17 rfl rfl ?_
  rintro _ _ w15 ⟨r16, rfl, rfl, hv⟩ hGw15 hS
  change St _ _ _ _ [.row 24 3 (some ⟨g13, 0, none⟩) 1 1 [.int .i64 Ph, .int .i64 Mh, .slice Ah mh.length kh], .row 24 3 (some ⟨g11, 0, none⟩) 1 1 [.int .i64 Pf, .int .i64 Mf, .slice Af mf.length kf]] at hS
  refine WL.not rfl rfl ?_
  refine WL.done ?_
  refine W.cond2 rfl (fun c17 => ?_) (fun c17 => ?_)
  · have hv := hv.1 (c17)
    refine W.seq ?_
    refine W.region ?_
    refine WL.assign rfl rfl ?_
    refine WL.done ?_
    refine W.ret ?_
    refine ⟨_, rfl, Fin.nil ?_⟩
    exact ⟨_, hS.ext, (hS.pick [] rfl).rows, News.of (hS.pick [] rfl).rows rfl, ⟨false, rfl, rfl, hv⟩⟩
  · have hv := hv.2 (c17)
    refine W.skip ?_
    refine W.seq ?_
    obtain ⟨r21, o23, hv⟩ := hv
    obtain ⟨r27, o29, hv⟩ := hv
    obtain ⟨o31, hv⟩ := hv
    obtain ⟨o38, hv⟩ := hv
    obtain ⟨r44, o46, hv⟩ := hv
    obtain ⟨r50, o52, hv⟩ := hv
    have hS0 := hS
    refine W.drawX 22 (fun _ => false) (fun _ => none) [⟨[], [2], false⟩, ⟨[], [3], false⟩, ⟨[0, 1], [], false⟩, ⟨[], [2], false⟩, ⟨[], [3], false⟩, ⟨[3, 4], [], false⟩, ⟨[2, 5], [], true⟩, ⟨[6], [], true⟩, ⟨[7], [2], false⟩, ⟨[7], [2], false⟩, ⟨[7, 8, 9], [], false⟩, ⟨[7, 10], [], true⟩, ⟨[11], [], true⟩, ⟨[12], [3], false⟩, ⟨[12], [2], false⟩, ⟨[12, 13, 14], [], false⟩, ⟨[12], [2], false⟩, ⟨[12], [3], false⟩, ⟨[12, 16, 17], [], false⟩, ⟨[12, 15, 18], [], true⟩, ⟨[12, 19], [], true⟩, ⟨[20], [], true⟩] [[(2, .pointer (some ⟨g11, 0, none⟩))], [(3, .pointer (some ⟨g13, 0, none⟩))], [], [(2, .pointer (some ⟨g11, 0, none⟩))], [(3, .pointer (some ⟨g13, 0, none⟩))], [], [], [], [(2, .pointer (some ⟨g11, 0, none⟩))], [(2, .pointer (some ⟨g11, 0, none⟩))], [], [], [], [(3, .pointer (some ⟨g13, 0, none⟩))], [(2, .pointer (some ⟨g11, 0, none⟩))], [], [(2, .pointer (some ⟨g11, 0, none⟩))], [(3, .pointer (some ⟨g13, 0, none⟩))], [], [], [], []] (fun iQ => [fun v _ => v = .agg #[.int .i64 Pf, .int .i64 Mf, .slice Af mf.length kf], fun v _ => v = .agg #[.int .i64 Ph, .int .i64 Mh, .slice Ah mh.length kh], fun v _ => v = .bool r21, fun v _ => v = .agg #[.int .i64 Pf, .int .i64 Mf, .slice Af mf.length kf], fun v _ => v = .agg #[.int .i64 Ph, .int .i64 Mh, .slice Ah mh.length kh], fun v _ => v = .bool r27, fun v _ => v = .bool true, fun v _ => v = .bool true, fun v _ => v = .agg #[.int .i64 Pf, .int .i64 Mf, .slice Af mf.length kf], fun v _ => v = .agg #[.int .i64 Pf, .int .i64 Mf, .slice Af mf.length kf], fun v _ => v = .bool true, fun v _ => v = .bool true, fun v _ => v = .bool true, fun v _ => v = .agg #[.int .i64 Ph, .int .i64 Mh, .slice Ah mh.length kh], fun v _ => v = .agg #[.int .i64 Pf, .int .i64 Mf, .slice Af mf.length kf], fun v _ => v = .bool r44, fun v _ => v = .agg #[.int .i64 Pf, .int .i64 Mf, .slice Af mf.length kf], fun v _ => v = .agg #[.int .i64 Ph, .int .i64 Mh, .slice Ah mh.length kh], fun v _ => v = .bool r50, fun v _ => v = .bool (r44 == r50), fun v _ => v = .bool (r44 == r50), fun v _ => v = .bool (r44 == r50)].getD iQ (fun _ _ => True)) Try.mixed (by kernel_rfl) ?_ (by kernel_rfl) ?_ ?_
    · refine Vs_monoT _ ?_
      intro VQ hVQ vQ wQ1 wQ2 hQ1 hQ2
      simp only [List.mem_cons, List.not_mem_nil, or_false] at hVQ
      rcases hVQ with rfl | rfl | rfl | rfl | rfl | rfl | rfl | rfl | rfl | rfl | rfl | rfl | rfl | rfl | rfl | rfl | rfl | rfl | rfl | rfl | rfl | rfl
      · exact hQ1
      · exact hQ1
      · exact hQ1
      · exact hQ1
      · exact hQ1
      · exact hQ1
      · exact hQ1
      · exact hQ1
      · exact hQ1
      · exact hQ1
      · exact hQ1
      · exact hQ1
      · exact hQ1
      · exact hQ1
      · exact hQ1
      · exact hQ1
      · exact hQ1
      · exact hQ1
      · exact hQ1
      · exact hQ1
      · exact hQ1
      · exact hQ1
    · refine ⟨⟨rfl, ⟨rfl, trivial⟩, ?_⟩, ⟨rfl, ⟨rfl, trivial⟩, ?_⟩, ⟨rfl, trivial, ?_⟩, ⟨rfl, ⟨rfl, trivial⟩, ?_⟩, ⟨rfl, ⟨rfl, trivial⟩, ?_⟩, ⟨rfl, trivial, ?_⟩, ⟨rfl, trivial, ?_⟩, ⟨rfl, trivial, ?_⟩, ⟨rfl, ⟨rfl, trivial⟩, ?_⟩, ⟨rfl, ⟨rfl, trivial⟩, ?_⟩, ⟨rfl, trivial, ?_⟩, ⟨rfl, trivial, ?_⟩, ⟨rfl, trivial, ?_⟩, ⟨rfl, ⟨rfl, trivial⟩, ?_⟩, ⟨rfl, ⟨rfl, trivial⟩, ?_⟩, ⟨rfl, trivial, ?_⟩, ⟨rfl, ⟨rfl, trivial⟩, ?_⟩, ⟨rfl, ⟨rfl, trivial⟩, ?_⟩, ⟨rfl, trivial, ?_⟩, ⟨rfl, trivial, ?_⟩, ⟨rfl, trivial, ?_⟩, ⟨rfl, trivial, ?_⟩, trivial⟩
      · intro w18 hE
        have hE := hE rfl
        have hS := hS.grow hE
        intro RR
        refine WL.loadV (cs := [.int .i64 Pf, .int .i64 Mf, .slice Af mf.length kf]) Try.el24 Try.agg24 rfl rfl (Own.vcells (hS.own (i := 1) rfl)) rfl ?_
        exact WL.done ⟨_, rfl, ext_refl _, rfl, (fun h => absurd h (by decide)), (fun j h => by cases h)⟩
      · intro w19 hE
        have hE := hE rfl
        have hS := hS.grow hE
        intro RR
        refine WL.loadV (cs := [.int .i64 Ph, .int .i64 Mh, .slice Ah mh.length kh]) Try.el24 Try.agg24 rfl rfl (Own.vcells (hS.own (i := 0) rfl)) rfl ?_
        exact WL.done ⟨_, rfl, ext_refl _, rfl, (fun h => absurd h (by decide)), (fun j h => by cases h)⟩
      · intro w20 hE
        have hE := hE rfl
        have hS := hS.grow hE
        rintro _ rfl
        rintro _ rfl
        intro RR
        refine WL.call Try.func21 rfl Try.nm21 rfl rfl (calls_un (ok_same (hS.ro hf) (hS.ro hh) o23)) ?_
        rintro _ w22 ⟨_, hGw22, hRww22, hNww22, r21q, rfl, rfl, he⟩
        subst he
        exact WL.done ⟨_, rfl, hGw22, rfl, (fun h => absurd h (by decide)), (fun j h => by cases h)⟩
      · intro w24 hE
        have hE := hE rfl
        have hS := hS.grow hE
        intro RR
        refine WL.loadV (cs := [.int .i64 Pf, .int .i64 Mf, .slice Af mf.length kf]) Try.el24 Try.agg24 rfl rfl (Own.vcells (hS.own (i := 1) rfl)) rfl ?_
        exact WL.done ⟨_, rfl, ext_refl _, rfl, (fun h => absurd h (by decide)), (fun j h => by cases h)⟩
      · intro w25 hE
        have hE := hE rfl
        have hS := hS.grow hE
        intro RR
        refine WL.loadV (cs := [.int .i64 Ph, .int .i64 Mh, .slice Ah mh.length kh]) Try.el24 Try.agg24 rfl rfl (Own.vcells (hS.own (i := 0) rfl)) rfl ?_
        exact WL.done ⟨_, rfl, ext_refl _, rfl, (fun h => absurd h (by decide)), (fun j h => by cases h)⟩
      · intro w26 hE
        have hE := hE rfl
        have hS := hS.grow hE
        rintro _ rfl
        rintro _ rfl
        intro RR
        refine WL.call Try.func23 rfl Try.nm23 rfl rfl (calls_un (ok_rSame (hS.ro hf) (hS.ro hh) o29)) ?_
        rintro _ w28 ⟨_, hGw28, hRww28, hNww28, r27q, rfl, rfl, he⟩
        subst he
        exact WL.done ⟨_, rfl, hGw28, rfl, (fun h => absurd h (by decide)), (fun j h => by cases h)⟩
      · intro w30 hE
        rintro _ rfl
        rintro _ rfl
        intro RR
        refine WL.eqB (r := (r21 == r27)) rfl rfl Try.underlying4 rfl rfl ?_; rw [o31]
        exact WL.done ⟨_, rfl, rfl, rfl, (fun h => absurd h (by decide)), (fun j h => by cases h)⟩
      · intro w32 hE
        rintro _ rfl
        intro RR
        refine WL.move rfl rfl ?_
        exact WL.done ⟨_, rfl, rfl, rfl, (fun h => absurd h (by decide)), (fun j h => by cases h)⟩
      · intro w33 hE
        have hE := hE rfl
        have hS := hS.grow hE
        rintro _ rfl
        intro RR
        refine WL.take rfl ?_
        refine WL.loadV (cs := [.int .i64 Pf, .int .i64 Mf, .slice Af mf.length kf]) Try.el24 Try.agg24 rfl rfl (Own.vcells (hS.own (i := 1) rfl)) rfl ?_
        exact WL.done ⟨_, rfl, ext_refl _, rfl, (fun h => absurd h (by decide)), (fun j h => by cases h)⟩
      · intro w34 hE
        have hE := hE rfl
        have hS := hS.grow hE
        rintro _ rfl
        intro RR
        refine WL.take rfl ?_
        refine WL.loadV (cs := [.int .i64 Pf, .int .i64 Mf, .slice Af mf.length kf]) Try.el24 Try.agg24 rfl rfl (Own.vcells (hS.own (i := 1) rfl)) rfl ?_
        exact WL.done ⟨_, rfl, ext_refl _, rfl, (fun h => absurd h (by decide)), (fun j h => by cases h)⟩
      · intro w35 hE
        have hE := hE rfl
        have hS := hS.grow hE
        rintro _ rfl
        rintro _ rfl
        rintro _ rfl
        intro RR
        refine WL.take rfl ?_
        refine WL.call Try.func21 rfl Try.nm21 rfl rfl (calls_un (ok_same (hS.ro hf) (hS.ro hf) o38)) ?_
        rintro _ w37 ⟨_, hGw37, hRww37, hNww37, r36, rfl, rfl, he⟩
        subst he
        exact WL.done ⟨_, rfl, hGw37, rfl, (fun h => absurd h (by decide)), (fun j h => by cases h)⟩
      · intro w39 hE
        rintro _ rfl
        rintro _ rfl
        intro RR
        refine WL.pick rfl rfl rfl ?_
        exact WL.done ⟨_, rfl, rfl, rfl, (fun h => absurd h (by decide)), (fun j h => by cases h)⟩
      · intro w40 hE
        rintro _ rfl
        intro RR
        refine WL.move rfl rfl ?_
        exact WL.done ⟨_, rfl, rfl, rfl, (fun h => absurd h (by decide)), (fun j h => by cases h)⟩
      · intro w41 hE
        have hE := hE rfl
        have hS := hS.grow hE
        rintro _ rfl
        intro RR
        refine WL.take rfl ?_
        refine WL.loadV (cs := [.int .i64 Ph, .int .i64 Mh, .slice Ah mh.length kh]) Try.el24 Try.agg24 rfl rfl (Own.vcells (hS.own (i := 0) rfl)) rfl ?_
        exact WL.done ⟨_, rfl, ext_refl _, rfl, (fun h => absurd h (by decide)), (fun j h => by cases h)⟩
      · intro w42 hE
        have hE := hE rfl
        have hS := hS.grow hE
        rintro _ rfl
        intro RR
        refine WL.take rfl ?_
        refine WL.loadV (cs := [.int .i64 Pf, .int .i64 Mf, .slice Af mf.length kf]) Try.el24 Try.agg24 rfl rfl (Own.vcells (hS.own (i := 1) rfl)) rfl ?_
        exact WL.done ⟨_, rfl, ext_refl _, rfl, (fun h => absurd h (by decide)), (fun j h => by cases h)⟩
      · intro w43 hE
        have hE := hE rfl
        have hS := hS.grow hE
        rintro _ rfl
        rintro _ rfl
        rintro _ rfl
        intro RR
        refine WL.take rfl ?_
        refine WL.call Try.func21 rfl Try.nm21 rfl rfl (calls_un (ok_same (hS.ro hh) (hS.ro hf) o46)) ?_
        rintro _ w45 ⟨_, hGw45, hRww45, hNww45, r44q, rfl, rfl, he⟩
        subst he
        exact WL.done ⟨_, rfl, hGw45, rfl, (fun h => absurd h (by decide)), (fun j h => by cases h)⟩
      · intro w47 hE
        have hE := hE rfl
        have hS := hS.grow hE
        rintro _ rfl
        intro RR
        refine WL.take rfl ?_
        refine WL.loadV (cs := [.int .i64 Pf, .int .i64 Mf, .slice Af mf.length kf]) Try.el24 Try.agg24 rfl rfl (Own.vcells (hS.own (i := 1) rfl)) rfl ?_
        exact WL.done ⟨_, rfl, ext_refl _, rfl, (fun h => absurd h (by decide)), (fun j h => by cases h)⟩
      · intro w48 hE
        have hE := hE rfl
        have hS := hS.grow hE
        rintro _ rfl
        intro RR
        refine WL.take rfl ?_
        refine WL.loadV (cs := [.int .i64 Ph, .int .i64 Mh, .slice Ah mh.length kh]) Try.el24 Try.agg24 rfl rfl (Own.vcells (hS.own (i := 0) rfl)) rfl ?_
        exact WL.done ⟨_, rfl, ext_refl _, rfl, (fun h => absurd h (by decide)), (fun j h => by cases h)⟩
      · intro w49 hE
        have hE := hE rfl
        have hS := hS.grow hE
        rintro _ rfl
        rintro _ rfl
        rintro _ rfl
        intro RR
        refine WL.take rfl ?_
        refine WL.call Try.func21 rfl Try.nm21 rfl rfl (calls_un (ok_same (hS.ro hf) (hS.ro hh) o52)) ?_
        rintro _ w51 ⟨_, hGw51, hRww51, hNww51, r50q, rfl, rfl, he⟩
        subst he
        exact WL.done ⟨_, rfl, hGw51, rfl, (fun h => absurd h (by decide)), (fun j h => by cases h)⟩
      · intro w53 hE
        rintro _ rfl
        rintro _ rfl
        rintro _ rfl
        intro RR
        refine WL.take rfl ?_
        refine WL.eqB (r := (r44 == r50)) rfl rfl Try.underlying4 rfl rfl ?_
        exact WL.done ⟨_, rfl, rfl, rfl, (fun h => absurd h (by decide)), (fun j h => by cases h)⟩
      · intro w54 hE
        rintro _ rfl
        rintro _ rfl
        intro RR
        refine WL.pick rfl rfl rfl ?_
        exact WL.done ⟨_, rfl, rfl, rfl, (fun h => absurd h (by decide)), (fun j h => by cases h)⟩
      · intro w55 hE
        rintro _ rfl
        intro RR
        refine WL.assign rfl rfl ?_
        exact WL.done ⟨_, rfl, rfl, rfl, (fun h => absurd h (by decide)), (fun j h => by cases h)⟩
    · intro vals w56 hT hVs hAp hCp
      have hS := hS.grow hT
      have hv0 : vals 0 = _ := hVs 0 (by decide)
      have hv1 : vals 1 = _ := hVs 1 (by decide)
      have hv2 : vals 2 = _ := hVs 2 (by decide)
      have hv3 : vals 3 = _ := hVs 3 (by decide)
      have hv4 : vals 4 = _ := hVs 4 (by decide)
      have hv5 : vals 5 = _ := hVs 5 (by decide)
      have hv6 : vals 6 = _ := hVs 6 (by decide)
      have hv7 : vals 7 = _ := hVs 7 (by decide)
      have hv8 : vals 8 = _ := hVs 8 (by decide)
      have hv9 : vals 9 = _ := hVs 9 (by decide)
      have hv10 : vals 10 = _ := hVs 10 (by decide)
      have hv11 : vals 11 = _ := hVs 11 (by decide)
      have hv12 : vals 12 = _ := hVs 12 (by decide)
      have hv13 : vals 13 = _ := hVs 13 (by decide)
      have hv14 : vals 14 = _ := hVs 14 (by decide)
      have hv15 : vals 15 = _ := hVs 15 (by decide)
      have hv16 : vals 16 = _ := hVs 16 (by decide)
      have hv17 : vals 17 = _ := hVs 17 (by decide)
      have hv18 : vals 18 = _ := hVs 18 (by decide)
      have hv19 : vals 19 = _ := hVs 19 (by decide)
      have hv20 : vals 20 = _ := hVs 20 (by decide)
      have hv21 : vals 21 = _ := hVs 21 (by decide)
      rw [show (List.filterMap (fun i => Option.map (fun t => (t, vals i)) (dstAt _ i)) (List.range _)) = [(7, .agg #[.int .i64 Pf, .int .i64 Mf, .slice Af mf.length kf]), (8, .agg #[.int .i64 Ph, .int .i64 Mh, .slice Ah mh.length kh]), (9, .bool r21), (10, .agg #[.int .i64 Pf, .int .i64 Mf, .slice Af mf.length kf]), (11, .agg #[.int .i64 Ph, .int .i64 Mh, .slice Ah mh.length kh]), (12, .bool r27), (13, .bool true), (14, .bool true), (15, .agg #[.int .i64 Pf, .int .i64 Mf, .slice Af mf.length kf]), (16, .agg #[.int .i64 Pf, .int .i64 Mf, .slice Af mf.length kf]), (17, .bool true), (18, .bool true), (19, .bool true), (20, .agg #[.int .i64 Ph, .int .i64 Mh, .slice Ah mh.length kh]), (21, .agg #[.int .i64 Pf, .int .i64 Mf, .slice Af mf.length kf]), (22, .bool r44), (23, .agg #[.int .i64 Pf, .int .i64 Mf, .slice Af mf.length kf]), (24, .agg #[.int .i64 Ph, .int .i64 Mh, .slice Ah mh.length kh]), (25, .bool r50), (26, .bool (r44 == r50)), (27, .bool (r44 == r50)), (4, .bool (r44 == r50))] from by
        show [(7, vals 0), (8, vals 1), (9, vals 2), (10, vals 3), (11, vals 4), (12, vals 5), (13, vals 6), (14, vals 7), (15, vals 8), (16, vals 9), (17, vals 10), (18, vals 11), (19, vals 12), (20, vals 13), (21, vals 14), (22, vals 15), (23, vals 16), (24, vals 17), (25, vals 18), (26, vals 19), (27, vals 20), (4, vals 21)] = _
        rw [hv0, hv1, hv2, hv3, hv4, hv5, hv6, hv7, hv8, hv9, hv10, hv11, hv12, hv13, hv14, hv15, hv16, hv17, hv18, hv19, hv20, hv21]]
      refine WA.done (by decide +kernel) ?_
      refine W.ret ?_
      refine ⟨_, rfl, Fin.nil ?_⟩
      exact ⟨_, hS.ext, (hS.pick [] rfl).rows, News.of (hS.pick [] rfl).rows rfl, ⟨(r44 == r50), rfl, rfl, hv⟩⟩

def V_FieldStandard (qo : Int) (Q : Bool → Prop) : Prop :=
  V_alive  (fun r12 => (((!r12) = true) → Q false) ∧ ((!r12) = false → (V_Standard qo (fun q => match q with | ((r15, r16, x17), r21) => V_rStandard qo (fun q => match q with | ((r26, r27, x28), r32) => (((!r32) = true) → (((r21 = (6 : Int)) → (V_rSame r15 r16 x17 (0 : Int) (0 : Int) ([] : List Int) (fun r39 => Q r39))) ∧ (¬ (r21 = (6 : Int)) → Q false))) ∧ ((!r32) = false → (((r21 = (0 : Int)) → (V_rSame r15 r16 x17 r26 r27 x28 (fun r42 => Q r42))) ∧ (¬ (r21 = (0 : Int)) → Q false))))))))
def V_FieldAdds (Pf : Int) (Mf : Int) (mf : List Int) (x : Int) (y : Int) (Q : Bool → Prop) : Prop :=
  V_alive  (fun r14 => (((!r14) = true) → Q false) ∧ ((!r14) = false → (V_made Pf Mf mf (fun q => match q with | none => V_none Pf Mf mf (fun r26 => Q r26) | some F19 => ∃ (r31 : Int), V_Add F19 x y (fun q => q = r31) ∧ (∃ (r38 : Int), V_rAdd Pf Mf mf x y (fun q => q = r38) ∧ ((r31 = r38) ∧ (∃ (r47 : Int), V_Neg F19 x (fun q => q = r47) ∧ (∃ (r53 : Int), V_rNeg Pf Mf mf x (fun q => q = r53) ∧ ((r47 = r53) ∧ (∃ (r64 : Int), V_Sub F19 x y (fun q => q = r64) ∧ (∃ (r71 : Int), V_rSub Pf Mf mf x y (fun q => q = r71) ∧ (Q (decide (r64 = r71))))))))))))))
def V_FieldMultiplies (Pf : Int) (Mf : Int) (mf : List Int) (x : Int) (y : Int) (Q : Bool → Prop) : Prop :=
  V_alive  (fun r14 => (((!r14) = true) → Q false) ∧ ((!r14) = false → (V_made Pf Mf mf (fun q => match q with | none => V_none Pf Mf mf (fun r26 => Q r26) | some F19 => ∃ (r31 : Int), V_Mul F19 x y (fun q => q = r31) ∧ (∃ (r38 : Int), V_rMul Pf Mf mf x y (fun q => q = r38) ∧ ((r31 = r38) ∧ Q true))))))
theorem ok_FieldMultiplies {w : World} {Q : Bool → Prop} {Pf : Int} {Mf : Int} {mf : List Int} {x : Int} {y : Int} {Bf : Nat} {Af : Option Addr} {nf kf : Nat} (hf : Rd Bf w 1 Af nf kf (is mf)) (hv : V_FieldMultiplies Pf Mf mf x y Q) :
    Calls Try.prog 7 #[.agg #[.int .i64 Pf, .int .i64 Mf, .slice Af nf kf], .int .i64 x, .int .i64 y] w fun e w' => ∃ v Qr, e = .returned v ∧ w.grownBy w' none ∧ Rows w.heap.size none w' Qr ∧ News w.heap.size Qr ∧ ∃ (r0 : Bool), v = .bool r0 ∧ Qr = [] ∧ Q r0 := by
  have hnf := hf.ilen
  subst hnf
  refine calls_swap ?_
  refine calls_of_W (vs := [.agg #[.int .i64 Pf, .int .i64 Mf, .slice Af mf.length kf], .int .i64 x, .int .i64 y]) [6] Try.func7 rfl rfl rfl rfl ?_
  have hS := St.start w
  unfold V_FieldMultiplies at hv
  refine W.seq ?_
  refine W.region ?_
  refine SL.box (z := 3) (cs := [.int .i64 Pf, .int .i64 Mf, .slice Af mf.length kf]) hS rfl rfl rfl rfl ?_
  intro g11 w12 hS
  refine WL.assign rfl rfl ?_
  refine WL.done ?_
  refine W.seq ?_
  refine W.seq ?_
  refine W.region ?_
  refine SL.call hS (ok_alive  hv) Try.func17 rfl Try.nm17 rfl rfl ?_
  rintro _ _ w13 ⟨r14, rfl, rfl, hv⟩ hGw13 hS
  change St _ _ _ _ [.row 24 3 (some ⟨g11, 0, none⟩) 1 1 [.int .i64 Pf, .int .i64 Mf, .slice Af mf.length kf]] at hS
  refine WL.not rfl rfl ?_
  refine WL.done ?_
  refine W.cond2 rfl (fun c15 => ?_) (fun c15 => ?_)
  · have hv := hv.1 (c15)
    refine W.seq ?_
    refine W.region ?_
    refine WL.assign rfl rfl ?_
    refine WL.done ?_
    refine W.ret ?_
    refine ⟨_, rfl, Fin.nil ?_⟩
    exact ⟨_, hS.ext, (hS.pick [] rfl).rows, News.of (hS.pick [] rfl).rows rfl, ⟨false, rfl, rfl, hv⟩⟩
  · have hv := hv.2 (c15)
    refine W.skip ?_
    refine W.seq ?_
    refine W.region ?_
    refine WL.loadV (cs := [.int .i64 Pf, .int .i64 Mf, .slice Af mf.length kf]) Try.el24 Try.agg24 rfl rfl (Own.vcells (hS.own (i := 0) rfl)) rfl ?_
    refine SL.call hS (ok_made (hS.ro hf) hv) Try.func30 rfl Try.nm30 rfl rfl ?_
    rintro _ _ w17 ⟨o, hv, hK⟩ hGw17 hS
    cases o with
    | none =>
      obtain ⟨⟨pv24, rfl⟩, rfl⟩ := hK
      change St _ _ _ _ [.row 24 3 (some ⟨g11, 0, none⟩) 1 1 [.int .i64 Pf, .int .i64 Mf, .slice Af mf.length kf]] at hS
      refine WL.move rfl rfl ?_
      refine WL.extract rfl rfl rfl ?_
      refine WL.extract rfl rfl rfl ?_
      refine WL.assign rfl rfl ?_
      refine WL.assign rfl rfl ?_
      refine WL.done ?_
      refine W.seq ?_
      refine W.seq ?_
      refine W.region ?_
      refine WL.move rfl rfl ?_
      refine WL.not rfl rfl ?_
      refine WL.done ?_
      refine W.condT rfl ?_
      refine W.seq ?_
      refine W.region ?_
      refine WL.loadV (cs := [.int .i64 Pf, .int .i64 Mf, .slice Af mf.length kf]) Try.el24 Try.agg24 rfl rfl (Own.vcells (hS.own (i := 0) rfl)) rfl ?_
      refine SL.call hS (ok_none (hS.ro hf) hv) Try.func31 rfl Try.nm31 rfl rfl ?_
      rintro _ _ w25 ⟨r26, rfl, rfl, hv⟩ hGw25 hS
      change St _ _ _ _ [.row 24 3 (some ⟨g11, 0, none⟩) 1 1 [.int .i64 Pf, .int .i64 Mf, .slice Af mf.length kf]] at hS
      refine WL.assign rfl rfl ?_
      refine WL.done ?_
      refine W.ret ?_
      refine ⟨_, rfl, Fin.nil ?_⟩
      exact ⟨_, hS.ext, (hS.pick [] rfl).rows, News.of (hS.pick [] rfl).rows rfl, ⟨r26, rfl, rfl, hv⟩⟩
    | some F19 =>
      obtain ⟨ad20, lo21, hi22, rfl, rfl⟩ := hK
      change St _ _ _ _ [.ch lo21 hi22 (fun wz => GFX lo21 hi22 wz ad20 F19), .row 24 3 (some ⟨g11, 0, none⟩) 1 1 [.int .i64 Pf, .int .i64 Mf, .slice Af mf.length kf]] at hS
      refine WL.move rfl rfl ?_
      refine WL.extract rfl rfl rfl ?_
      refine WL.extract rfl rfl rfl ?_
      refine WL.assign rfl rfl ?_
      refine WL.assign rfl rfl ?_
      refine WL.done ?_
      refine W.seq ?_
      refine W.seq ?_
      refine W.region ?_
      refine WL.move rfl rfl ?_
      refine WL.not rfl rfl ?_
      refine WL.done ?_
      refine W.condF rfl ?_
      refine W.skip ?_
      refine W.seq ?_
      obtain ⟨r31, o33, hv⟩ := hv
      obtain ⟨r38, o40, hv⟩ := hv
      obtain ⟨o42, hv⟩ := hv
      have hS0 := hS
      refine W.drawX 10 (fun _ => false) (fun _ => none) [⟨[], [7], true⟩, ⟨[], [1], true⟩, ⟨[], [2], true⟩, ⟨[0, 1, 2], [], false⟩, ⟨[], [3], false⟩, ⟨[], [1], true⟩, ⟨[], [2], true⟩, ⟨[4, 5, 6], [], false⟩, ⟨[3, 7], [], true⟩, ⟨[8], [], true⟩] [[(7, .pointer (some ad20))], [(1, .int .i64 x)], [(2, .int .i64 y)], [], [(3, .pointer (some ⟨g11, 0, none⟩))], [(1, .int .i64 x)], [(2, .int .i64 y)], [], [], []] (fun iQ => [fun v _ => v = .pointer (some ad20), fun v _ => v = .int .i64 x, fun v _ => v = .int .i64 y, fun v _ => v = .int .i64 r31, fun v _ => v = .agg #[.int .i64 Pf, .int .i64 Mf, .slice Af mf.length kf], fun v _ => v = .int .i64 x, fun v _ => v = .int .i64 y, fun v _ => v = .int .i64 r38, fun v _ => v = .bool true, fun v _ => v = .bool true].getD iQ (fun _ _ => True)) Try.mixed (by kernel_rfl) ?_ (by kernel_rfl) ?_ ?_
      · refine Vs_monoT _ ?_
        intro VQ hVQ vQ wQ1 wQ2 hQ1 hQ2
        simp only [List.mem_cons, List.not_mem_nil, or_false] at hVQ
        rcases hVQ with rfl | rfl | rfl | rfl | rfl | rfl | rfl | rfl | rfl | rfl
        · exact hQ1
        · exact hQ1
        · exact hQ1
        · exact hQ1
        · exact hQ1
        · exact hQ1
        · exact hQ1
        · exact hQ1
        · exact hQ1
        · exact hQ1
      · refine ⟨⟨rfl, ⟨rfl, trivial⟩, ?_⟩, ⟨rfl, ⟨rfl, trivial⟩, ?_⟩, ⟨rfl, ⟨rfl, trivial⟩, ?_⟩, ⟨rfl, trivial, ?_⟩, ⟨rfl, ⟨rfl, trivial⟩, ?_⟩, ⟨rfl, ⟨rfl, trivial⟩, ?_⟩, ⟨rfl, ⟨rfl, trivial⟩, ?_⟩, ⟨rfl, trivial, ?_⟩, ⟨rfl, trivial, ?_⟩, ⟨rfl, trivial, ?_⟩, trivial⟩
        · intro w27 hE
          intro RR
          refine WL.move rfl rfl ?_
          exact WL.done ⟨_, rfl, rfl, rfl, (fun h => absurd h (by decide)), (fun j h => by cases h)⟩
        · intro w28 hE
          intro RR
          refine WL.move rfl rfl ?_
          exact WL.done ⟨_, rfl, rfl, rfl, (fun h => absurd h (by decide)), (fun j h => by cases h)⟩
        · intro w29 hE
          intro RR
          refine WL.move rfl rfl ?_
          exact WL.done ⟨_, rfl, rfl, rfl, (fun h => absurd h (by decide)), (fun j h => by cases h)⟩
        · intro w30 hE
          have hE := hE rfl
          have hS := hS.grow hE
          rintro _ rfl
          rintro _ rfl
          rintro _ rfl
          intro RR
          refine WL.call Try.func38 rfl Try.nm38 rfl rfl (calls_un (ok_Mul (GFX.gfr (hS.chunk (i := 0) rfl)) o33)) ?_
          rintro _ w32 ⟨_, hGw32, hRww32, hNww32, r31q, rfl, rfl, he⟩
          subst he
          exact WL.done ⟨_, rfl, hGw32, rfl, (fun h => absurd h (by decide)), (fun j h => by cases h)⟩
        · intro w34 hE
          have hE := hE rfl
          have hS := hS.grow hE
          intro RR
          refine WL.loadV (cs := [.int .i64 Pf, .int .i64 Mf, .slice Af mf.length kf]) Try.el24 Try.agg24 rfl rfl (Own.vcells (hS.own (i := 1) rfl)) rfl ?_
          exact WL.done ⟨_, rfl, ext_refl _, rfl, (fun h => absurd h (by decide)), (fun j h => by cases h)⟩
        · intro w35 hE
          intro RR
          refine WL.move rfl rfl ?_
          exact WL.done ⟨_, rfl, rfl, rfl, (fun h => absurd h (by decide)), (fun j h => by cases h)⟩
        · intro w36 hE
          intro RR
          refine WL.move rfl rfl ?_
          exact WL.done ⟨_, rfl, rfl, rfl, (fun h => absurd h (by decide)), (fun j h => by cases h)⟩
        · intro w37 hE
          have hE := hE rfl
          have hS := hS.grow hE
          rintro _ rfl
          rintro _ rfl
          rintro _ rfl
          intro RR
          refine WL.call Try.func39 rfl Try.nm39 rfl rfl (calls_un (ok_rMul (hS.ro hf) o40)) ?_
          rintro _ w39 ⟨_, hGw39, hRww39, hNww39, r38q, rfl, rfl, he⟩
          subst he
          exact WL.done ⟨_, rfl, hGw39, rfl, (fun h => absurd h (by decide)), (fun j h => by cases h)⟩
        · intro w41 hE
          rintro _ rfl
          rintro _ rfl
          intro RR
          refine WL.eqlD rfl rfl rfl ?_; rw [decide_eq_true o42]
          exact WL.done ⟨_, rfl, rfl, rfl, (fun h => absurd h (by decide)), (fun j h => by cases h)⟩
        · intro w43 hE
          rintro _ rfl
          intro RR
          refine WL.assign rfl rfl ?_
          exact WL.done ⟨_, rfl, rfl, rfl, (fun h => absurd h (by decide)), (fun j h => by cases h)⟩
      · intro vals w44 hT hVs hAp hCp
        have hS := hS.grow hT
        have hv0 : vals 0 = _ := hVs 0 (by decide)
        have hv1 : vals 1 = _ := hVs 1 (by decide)
        have hv2 : vals 2 = _ := hVs 2 (by decide)
        have hv3 : vals 3 = _ := hVs 3 (by decide)
        have hv4 : vals 4 = _ := hVs 4 (by decide)
        have hv5 : vals 5 = _ := hVs 5 (by decide)
        have hv6 : vals 6 = _ := hVs 6 (by decide)
        have hv7 : vals 7 = _ := hVs 7 (by decide)
        have hv8 : vals 8 = _ := hVs 8 (by decide)
        have hv9 : vals 9 = _ := hVs 9 (by decide)
        rw [show (List.filterMap (fun i => Option.map (fun t => (t, vals i)) (dstAt _ i)) (List.range _)) = [(20, .pointer (some ad20)), (21, .int .i64 x), (22, .int .i64 y), (23, .int .i64 r31), (24, .agg #[.int .i64 Pf, .int .i64 Mf, .slice Af mf.length kf]), (25, .int .i64 x), (26, .int .i64 y), (27, .int .i64 r38), (28, .bool true), (6, .bool true)] from by
          show [(20, vals 0), (21, vals 1), (22, vals 2), (23, vals 3), (24, vals 4), (25, vals 5), (26, vals 6), (27, vals 7), (28, vals 8), (6, vals 9)] = _
          rw [hv0, hv1, hv2, hv3, hv4, hv5, hv6, hv7, hv8, hv9]]
        refine WA.done (by decide +kernel) ?_
        refine W.ret ?_
        refine ⟨_, rfl, Fin.nil ?_⟩
        exact ⟨_, hS.ext, (hS.pick [] rfl).rows, News.of (hS.pick [] rfl).rows rfl, ⟨true, rfl, rfl, hv⟩⟩

def V_FieldDivides (Pf : Int) (Mf : Int) (mf : List Int) (x : Int) (y : Int) (Q : Bool → Prop) : Prop :=
  V_alive  (fun r14 => (((!r14) = true) → Q false) ∧ ((!r14) = false → (V_made Pf Mf mf (fun q => match q with | none => V_none Pf Mf mf (fun r26 => Q r26) | some F19 => ∃ (r30 : Int), V_rIn Pf Mf mf x (fun q => q = r30) ∧ (∃ (r36 : Int), V_rIn Pf Mf mf y (fun q => q = r36) ∧ (V_Inv F19 y (fun q => match q with | (r43, r44) => V_Div F19 x y (fun q => match q with | (r46, r47) => ((r36 = (0 : Int)) → (((r44 = (7 : Int)) → (((r47 = (7 : Int)) → (((r43 = (0 : Int)) → (Q (decide (r46 = (0 : Int))))) ∧ (¬ (r43 = (0 : Int)) → Q false))) ∧ (¬ (r47 = (7 : Int)) → Q false))) ∧ (¬ (r44 = (7 : Int)) → Q false))) ∧ (¬ (r36 = (0 : Int)) → (((r44 = (0 : Int)) → (((r47 = (0 : Int)) → (V_Is F19 r43 (fun r55 => ((r55 = true) → (V_Is F19 r46 (fun r58 => ((r58 = true) → (V_rMul Pf Mf mf r43 r36 (fun r61 => ((r61 = (1 : Int)) → (V_rMul Pf Mf mf r46 r36 (fun r64 => Q (decide (r64 = r30))))) ∧ (¬ (r61 = (1 : Int)) → Q false)))) ∧ (r58 = false → Q false)))) ∧ (r55 = false → Q false)))) ∧ (¬ (r47 = (0 : Int)) → Q false))) ∧ (¬ (r44 = (0 : Int)) → Q false)))))))))))
theorem ok_FieldDivides {w : World} {Q : Bool → Prop} {Pf : Int} {Mf : Int} {mf : List Int} {x : Int} {y : Int} {Bf : Nat} {Af : Option Addr} {nf kf : Nat} (hf : Rd Bf w 1 Af nf kf (is mf)) (hv : V_FieldDivides Pf Mf mf x y Q) :
    Calls Try.prog 8 #[.agg #[.int .i64 Pf, .int .i64 Mf, .slice Af nf kf], .int .i64 x, .int .i64 y] w fun e w' => ∃ v Qr, e = .returned v ∧ w.grownBy w' none ∧ Rows w.heap.size none w' Qr ∧ News w.heap.size Qr ∧ ∃ (r0 : Bool), v = .bool r0 ∧ Qr = [] ∧ Q r0 := by
  have hnf := hf.ilen
  subst hnf
  refine calls_swap ?_
  refine calls_of_W (vs := [.agg #[.int .i64 Pf, .int .i64 Mf, .slice Af mf.length kf], .int .i64 x, .int .i64 y]) [6] Try.func8 rfl rfl rfl rfl ?_
  have hS := St.start w
  unfold V_FieldDivides at hv
  refine W.seq ?_
  refine W.region ?_
  refine SL.box (z := 3) (cs := [.int .i64 Pf, .int .i64 Mf, .slice Af mf.length kf]) hS rfl rfl rfl rfl ?_
  intro g11 w12 hS
  refine WL.assign rfl rfl ?_
  refine WL.done ?_
  refine W.seq ?_
  refine W.seq ?_
  refine W.region ?_
  refine SL.call hS (ok_alive  hv) Try.func17 rfl Try.nm17 rfl rfl ?_
  rintro _ _ w13 ⟨r14, rfl, rfl, hv⟩ hGw13 hS
  change St _ _ _ _ [.row 24 3 (some ⟨g11, 0, none⟩) 1 1 [.int .i64 Pf, .int .i64 Mf, .slice Af mf.length kf]] at hS
  refine WL.not rfl rfl ?_
  refine WL.done ?_
  refine W.cond2 rfl (fun c15 => ?_) (fun c15 => ?_)
  · have hv := hv.1 (c15)
    refine W.seq ?_
    refine W.region ?_
    refine WL.assign rfl rfl ?_
    refine WL.done ?_
    refine W.ret ?_
    refine ⟨_, rfl, Fin.nil ?_⟩
    exact ⟨_, hS.ext, (hS.pick [] rfl).rows, News.of (hS.pick [] rfl).rows rfl, ⟨false, rfl, rfl, hv⟩⟩
  · have hv := hv.2 (c15)
    refine W.skip ?_
    refine W.seq ?_
    refine W.region ?_
    refine WL.loadV (cs := [.int .i64 Pf, .int .i64 Mf, .slice Af mf.length kf]) Try.el24 Try.agg24 rfl rfl (Own.vcells (hS.own (i := 0) rfl)) rfl ?_
    refine SL.call hS (ok_made (hS.ro hf) hv) Try.func30 rfl Try.nm30 rfl rfl ?_
    rintro _ _ w17 ⟨o, hv, hK⟩ hGw17 hS
    cases o with
    | none =>
      obtain ⟨⟨pv24, rfl⟩, rfl⟩ := hK
      change St _ _ _ _ [.row 24 3 (some ⟨g11, 0, none⟩) 1 1 [.int .i64 Pf, .int .i64 Mf, .slice Af mf.length kf]] at hS
      refine WL.move rfl rfl ?_
      refine WL.extract rfl rfl rfl ?_
      refine WL.extract rfl rfl rfl ?_
      refine WL.assign rfl rfl ?_
      refine WL.assign rfl rfl ?_
      refine WL.done ?_
      refine W.seq ?_
      refine W.seq ?_
      refine W.region ?_
      refine WL.move rfl rfl ?_
      refine WL.not rfl rfl ?_
      refine WL.done ?_
      refine W.condT rfl ?_
      refine W.seq ?_
      refine W.region ?_
      refine WL.loadV (cs := [.int .i64 Pf, .int .i64 Mf, .slice Af mf.length kf]) Try.el24 Try.agg24 rfl rfl (Own.vcells (hS.own (i := 0) rfl)) rfl ?_
      refine SL.call hS (ok_none (hS.ro hf) hv) Try.func31 rfl Try.nm31 rfl rfl ?_
      rintro _ _ w25 ⟨r26, rfl, rfl, hv⟩ hGw25 hS
      change St _ _ _ _ [.row 24 3 (some ⟨g11, 0, none⟩) 1 1 [.int .i64 Pf, .int .i64 Mf, .slice Af mf.length kf]] at hS
      refine WL.assign rfl rfl ?_
      refine WL.done ?_
      refine W.ret ?_
      refine ⟨_, rfl, Fin.nil ?_⟩
      exact ⟨_, hS.ext, (hS.pick [] rfl).rows, News.of (hS.pick [] rfl).rows rfl, ⟨r26, rfl, rfl, hv⟩⟩
    | some F19 =>
      obtain ⟨ad20, lo21, hi22, rfl, rfl⟩ := hK
      change St _ _ _ _ [.ch lo21 hi22 (fun wz => GFX lo21 hi22 wz ad20 F19), .row 24 3 (some ⟨g11, 0, none⟩) 1 1 [.int .i64 Pf, .int .i64 Mf, .slice Af mf.length kf]] at hS
      refine WL.move rfl rfl ?_
      refine WL.extract rfl rfl rfl ?_
      refine WL.extract rfl rfl rfl ?_
      refine WL.assign rfl rfl ?_
      refine WL.assign rfl rfl ?_
      refine WL.done ?_
      refine W.seq ?_
      refine W.seq ?_
      refine W.region ?_
      refine WL.move rfl rfl ?_
      refine WL.not rfl rfl ?_
      refine WL.done ?_
      refine W.condF rfl ?_
      refine W.skip ?_
      refine W.seq ?_
      obtain ⟨r30, o32, hv⟩ := hv
      obtain ⟨r36, o38, hv⟩ := hv
      have hS0 := hS
      refine W.drawX 8 (fun _ => false) (fun _ => none) [⟨[], [3], false⟩, ⟨[], [1], true⟩, ⟨[0, 1], [], false⟩, ⟨[], [3], false⟩, ⟨[], [2], true⟩, ⟨[3, 4], [], false⟩, ⟨[2], [], true⟩, ⟨[5], [], true⟩] [[(3, .pointer (some ⟨g11, 0, none⟩))], [(1, .int .i64 x)], [], [(3, .pointer (some ⟨g11, 0, none⟩))], [(2, .int .i64 y)], [], [], []] (fun iQ => [fun v _ => v = .agg #[.int .i64 Pf, .int .i64 Mf, .slice Af mf.length kf], fun v _ => v = .int .i64 x, fun v _ => v = .int .i64 r30, fun v _ => v = .agg #[.int .i64 Pf, .int .i64 Mf, .slice Af mf.length kf], fun v _ => v = .int .i64 y, fun v _ => v = .int .i64 r36, fun v _ => v = .int .i64 r30, fun v _ => v = .int .i64 r36].getD iQ (fun _ _ => True)) Try.mixed (by kernel_rfl) ?_ (by kernel_rfl) ?_ ?_
      · refine Vs_monoT _ ?_
        intro VQ hVQ vQ wQ1 wQ2 hQ1 hQ2
        simp only [List.mem_cons, List.not_mem_nil, or_false] at hVQ
        rcases hVQ with rfl | rfl | rfl | rfl | rfl | rfl | rfl | rfl
        · exact hQ1
        · exact hQ1
        · exact hQ1
        · exact hQ1
        · exact hQ1
        · exact hQ1
        · exact hQ1
        · exact hQ1
      · refine ⟨⟨rfl, ⟨rfl, trivial⟩, ?_⟩, ⟨rfl, ⟨rfl, trivial⟩, ?_⟩, ⟨rfl, trivial, ?_⟩, ⟨rfl, ⟨rfl, trivial⟩, ?_⟩, ⟨rfl, ⟨rfl, trivial⟩, ?_⟩, ⟨rfl, trivial, ?_⟩, ⟨rfl, trivial, ?_⟩, ⟨rfl, trivial, ?_⟩, trivial⟩
        · intro w27 hE
          have hE := hE rfl
          have hS := hS.grow hE
          intro RR
          refine WL.loadV (cs := [.int .i64 Pf, .int .i64 Mf, .slice Af mf.length kf]) Try.el24 Try.agg24 rfl rfl (Own.vcells (hS.own (i := 1) rfl)) rfl ?_
          exact WL.done ⟨_, rfl, ext_refl _, rfl, (fun h => absurd h (by decide)), (fun j h => by cases h)⟩
        · intro w28 hE
          intro RR
          refine WL.move rfl rfl ?_
          exact WL.done ⟨_, rfl, rfl, rfl, (fun h => absurd h (by decide)), (fun j h => by cases h)⟩
        · intro w29 hE
          have hE := hE rfl
          have hS := hS.grow hE
          rintro _ rfl
          rintro _ rfl
          intro RR
          refine WL.call Try.func40 rfl Try.nm40 rfl rfl (calls_un (ok_rIn (hS.ro hf) o32)) ?_
          rintro _ w31 ⟨_, hGw31, hRww31, hNww31, r30q, rfl, rfl, he⟩
          subst he
          exact WL.done ⟨_, rfl, hGw31, rfl, (fun h => absurd h (by decide)), (fun j h => by cases h)⟩
        · intro w33 hE
          have hE := hE rfl
          have hS := hS.grow hE
          intro RR
          refine WL.loadV (cs := [.int .i64 Pf, .int .i64 Mf, .slice Af mf.length kf]) Try.el24 Try.agg24 rfl rfl (Own.vcells (hS.own (i := 1) rfl)) rfl ?_
          exact WL.done ⟨_, rfl, ext_refl _, rfl, (fun h => absurd h (by decide)), (fun j h => by cases h)⟩
        · intro w34 hE
          intro RR
          refine WL.move rfl rfl ?_
          exact WL.done ⟨_, rfl, rfl, rfl, (fun h => absurd h (by decide)), (fun j h => by cases h)⟩
        · intro w35 hE
          have hE := hE rfl
          have hS := hS.grow hE
          rintro _ rfl
          rintro _ rfl
          intro RR
          refine WL.call Try.func40 rfl Try.nm40 rfl rfl (calls_un (ok_rIn (hS.ro hf) o38)) ?_
          rintro _ w37 ⟨_, hGw37, hRww37, hNww37, r36q, rfl, rfl, he⟩
          subst he
          exact WL.done ⟨_, rfl, hGw37, rfl, (fun h => absurd h (by decide)), (fun j h => by cases h)⟩
        · intro w39 hE
          rintro _ rfl
          intro RR
          refine WL.assign rfl rfl ?_
          exact WL.done ⟨_, rfl, rfl, rfl, (fun h => absurd h (by decide)), (fun j h => by cases h)⟩
        · intro w40 hE
          rintro _ rfl
          intro RR
          refine WL.assign rfl rfl ?_
          exact WL.done ⟨_, rfl, rfl, rfl, (fun h => absurd h (by decide)), (fun j h => by cases h)⟩
      · intro vals w41 hT hVs hAp hCp
        have hS := hS.grow hT
        have hv0 : vals 0 = _ := hVs 0 (by decide)
        have hv1 : vals 1 = _ := hVs 1 (by decide)
        have hv2 : vals 2 = _ := hVs 2 (by decide)
        have hv3 : vals 3 = _ := hVs 3 (by decide)
        have hv4 : vals 4 = _ := hVs 4 (by decide)
        have hv5 : vals 5 = _ := hVs 5 (by decide)
        have hv6 : vals 6 = _ := hVs 6 (by decide)
        have hv7 : vals 7 = _ := hVs 7 (by decide)
        rw [show (List.filterMap (fun i => Option.map (fun t => (t, vals i)) (dstAt _ i)) (List.range _)) = [(26, .agg #[.int .i64 Pf, .int .i64 Mf, .slice Af mf.length kf]), (27, .int .i64 x), (28, .int .i64 r30), (29, .agg #[.int .i64 Pf, .int .i64 Mf, .slice Af mf.length kf]), (30, .int .i64 y), (31, .int .i64 r36), (9, .int .i64 r30), (10, .int .i64 r36)] from by
          show [(26, vals 0), (27, vals 1), (28, vals 2), (29, vals 3), (30, vals 4), (31, vals 5), (9, vals 6), (10, vals 7)] = _
          rw [hv0, hv1, hv2, hv3, hv4, hv5, hv6, hv7]]
        refine WA.done (by decide +kernel) ?_
        refine W.seq ?_
        refine W.region ?_
        refine WL.move rfl rfl ?_
        refine WL.move rfl rfl ?_
        refine SL.call hS (ok_Inv (GFX.gfr (hS.chunk (i := 0) rfl)) hv) Try.func41 rfl Try.nm41 rfl rfl ?_
        rintro _ _ w42 ⟨r43, r44, rfl, rfl, hv⟩ hGw42 hS
        change St _ _ _ _ [.ch lo21 hi22 (fun wz => GFX lo21 hi22 wz ad20 F19), .row 24 3 (some ⟨g11, 0, none⟩) 1 1 [.int .i64 Pf, .int .i64 Mf, .slice Af mf.length kf]] at hS
        refine WL.move rfl rfl ?_
        refine WL.extract rfl rfl rfl ?_
        refine WL.extract rfl rfl rfl ?_
        refine WL.assign rfl rfl ?_
        refine WL.assign rfl rfl ?_
        refine WL.done ?_
        refine W.seq ?_
        refine W.region ?_
        refine WL.move rfl rfl ?_
        refine WL.move rfl rfl ?_
        refine WL.move rfl rfl ?_
        refine SL.call hS (ok_Div (GFX.gfr (hS.chunk (i := 0) rfl)) hv) Try.func42 rfl Try.nm42 rfl rfl ?_
        rintro _ _ w45 ⟨r46, r47, rfl, rfl, hv⟩ hGw45 hS
        change St _ _ _ _ [.ch lo21 hi22 (fun wz => GFX lo21 hi22 wz ad20 F19), .row 24 3 (some ⟨g11, 0, none⟩) 1 1 [.int .i64 Pf, .int .i64 Mf, .slice Af mf.length kf]] at hS
        refine WL.move rfl rfl ?_
        refine WL.extract rfl rfl rfl ?_
        refine WL.extract rfl rfl rfl ?_
        refine WL.assign rfl rfl ?_
        refine WL.assign rfl rfl ?_
        refine WL.done ?_
        refine W.seq ?_
        refine W.seq ?_
        refine W.region ?_
        refine WL.move rfl rfl ?_
        refine WL.eqlD rfl rfl rfl ?_
        refine WL.done ?_
        refine W.cond2 rfl (fun c48 => ?_) (fun c48 => ?_)
        · have hv := hv.1 (of_decide_eq_true c48)
          refine W.seq ?_
          refine W.region ?_
          refine WL.move rfl rfl ?_
          refine WL.eqlD rfl rfl rfl ?_
          refine WL.move rfl rfl ?_
          by_cases g49 : r44 = (7 : Int)
          · have hv := hv.1 g49
            rw [decide_eq_true g49]
            refine WL.take rfl ?_
            refine WL.move rfl rfl ?_
            refine WL.take rfl ?_
            refine WL.eqlD rfl rfl rfl ?_
            refine WL.pick rfl rfl rfl ?_
            refine WL.move rfl rfl ?_
            by_cases g50 : r47 = (7 : Int)
            · have hv := hv.1 g50
              rw [decide_eq_true g50]
              refine WL.take rfl ?_
              refine WL.move rfl rfl ?_
              refine WL.take rfl ?_
              refine WL.eqlD rfl rfl rfl ?_
              refine WL.pick rfl rfl rfl ?_
              refine WL.move rfl rfl ?_
              by_cases g51 : r43 = (0 : Int)
              · have hv := hv.1 g51
                rw [decide_eq_true g51]
                refine WL.take rfl ?_
                refine WL.move rfl rfl ?_
                refine WL.take rfl ?_
                refine WL.eqlD rfl rfl rfl ?_
                refine WL.pick rfl rfl rfl ?_
                refine WL.assign rfl rfl ?_
                refine WL.done ?_
                refine W.ret ?_
                refine ⟨_, rfl, Fin.nil ?_⟩
                exact ⟨_, hS.ext, (hS.pick [] rfl).rows, News.of (hS.pick [] rfl).rows rfl, ⟨(decide (r46 = (0 : Int))), rfl, rfl, hv⟩⟩
              · have hv := hv.2 g51
                rw [decide_eq_false g51]
                refine WL.pass rfl rfl rfl ?_
                refine WL.pass rfl rfl rfl ?_
                refine WL.pick rfl rfl rfl ?_
                refine WL.assign rfl rfl ?_
                refine WL.done ?_
                refine W.ret ?_
                refine ⟨_, rfl, Fin.nil ?_⟩
                exact ⟨_, hS.ext, (hS.pick [] rfl).rows, News.of (hS.pick [] rfl).rows rfl, ⟨false, rfl, rfl, hv⟩⟩
            · have hv := hv.2 g50
              rw [decide_eq_false g50]
              refine WL.pass rfl rfl rfl ?_
              refine WL.pass rfl rfl rfl ?_
              refine WL.pick rfl rfl rfl ?_
              refine WL.move rfl rfl ?_
              refine WL.pass rfl rfl rfl ?_
              refine WL.pass rfl rfl rfl ?_
              refine WL.pick rfl rfl rfl ?_
              refine WL.assign rfl rfl ?_
              refine WL.done ?_
              refine W.ret ?_
              refine ⟨_, rfl, Fin.nil ?_⟩
              exact ⟨_, hS.ext, (hS.pick [] rfl).rows, News.of (hS.pick [] rfl).rows rfl, ⟨false, rfl, rfl, hv⟩⟩
          · have hv := hv.2 g49
            rw [decide_eq_false g49]
            refine WL.pass rfl rfl rfl ?_
            refine WL.pass rfl rfl rfl ?_
            refine WL.pick rfl rfl rfl ?_
            refine WL.move rfl rfl ?_
            refine WL.pass rfl rfl rfl ?_
            refine WL.pass rfl rfl rfl ?_
            refine WL.pick rfl rfl rfl ?_
            refine WL.move rfl rfl ?_
            refine WL.pass rfl rfl rfl ?_
            refine WL.pass rfl rfl rfl ?_
            refine WL.pick rfl rfl rfl ?_
            refine WL.assign rfl rfl ?_
            refine WL.done ?_
            refine W.ret ?_
            refine ⟨_, rfl, Fin.nil ?_⟩
            exact ⟨_, hS.ext, (hS.pick [] rfl).rows, News.of (hS.pick [] rfl).rows rfl, ⟨false, rfl, rfl, hv⟩⟩
        · have hv := hv.2 (of_decide_eq_false c48)
          refine W.skip ?_
          refine W.seq ?_
          refine W.region ?_
          refine WL.move rfl rfl ?_
          refine WL.eqlD rfl rfl rfl ?_
          refine WL.move rfl rfl ?_
          by_cases g52 : r44 = (0 : Int)
          · have hv := hv.1 g52
            rw [decide_eq_true g52]
            refine WL.take rfl ?_
            refine WL.move rfl rfl ?_
            refine WL.take rfl ?_
            refine WL.eqlD rfl rfl rfl ?_
            refine WL.pick rfl rfl rfl ?_
            refine WL.move rfl rfl ?_
            by_cases g53 : r47 = (0 : Int)
            · have hv := hv.1 g53
              rw [decide_eq_true g53]
              refine WL.take rfl ?_
              refine WL.move rfl rfl ?_
              refine WL.take rfl ?_
              refine WL.move rfl rfl ?_
              refine WL.take rfl ?_
              refine SL.call hS (ok_Is (GFX.gfr (hS.chunk (i := 0) rfl)) hv) Try.func26 rfl Try.nm26 rfl rfl ?_
              rintro _ _ w54 ⟨r55, rfl, rfl, hv⟩ hGw54 hS
              change St _ _ _ _ [.ch lo21 hi22 (fun wz => GFX lo21 hi22 wz ad20 F19), .row 24 3 (some ⟨g11, 0, none⟩) 1 1 [.int .i64 Pf, .int .i64 Mf, .slice Af mf.length kf]] at hS
              refine WL.pick rfl rfl rfl ?_
              refine WL.move rfl rfl ?_
              cases g56 : r55
              · have hv := hv.2 g56
                refine WL.pass rfl rfl rfl ?_
                refine WL.pass rfl rfl rfl ?_
                refine WL.pass rfl rfl rfl ?_
                refine WL.pick rfl rfl rfl ?_
                refine WL.move rfl rfl ?_
                refine WL.pass rfl rfl rfl ?_
                refine WL.pass rfl rfl rfl ?_
                refine WL.pass rfl rfl rfl ?_
                refine WL.pass rfl rfl rfl ?_
                refine WL.pass rfl rfl rfl ?_
                refine WL.pick rfl rfl rfl ?_
                refine WL.move rfl rfl ?_
                refine WL.pass rfl rfl rfl ?_
                refine WL.pass rfl rfl rfl ?_
                refine WL.pass rfl rfl rfl ?_
                refine WL.pass rfl rfl rfl ?_
                refine WL.pass rfl rfl rfl ?_
                refine WL.pass rfl rfl rfl ?_
                refine WL.pick rfl rfl rfl ?_
                refine WL.assign rfl rfl ?_
                refine WL.done ?_
                refine W.ret ?_
                refine ⟨_, rfl, Fin.nil ?_⟩
                exact ⟨_, hS.ext, (hS.pick [] rfl).rows, News.of (hS.pick [] rfl).rows rfl, ⟨false, rfl, rfl, hv⟩⟩
              · have hv := hv.1 g56
                refine WL.take rfl ?_
                refine WL.move rfl rfl ?_
                refine WL.take rfl ?_
                refine WL.move rfl rfl ?_
                refine WL.take rfl ?_
                refine SL.call hS (ok_Is (GFX.gfr (hS.chunk (i := 0) rfl)) hv) Try.func26 rfl Try.nm26 rfl rfl ?_
                rintro _ _ w57 ⟨r58, rfl, rfl, hv⟩ hGw57 hS
                change St _ _ _ _ [.ch lo21 hi22 (fun wz => GFX lo21 hi22 wz ad20 F19), .row 24 3 (some ⟨g11, 0, none⟩) 1 1 [.int .i64 Pf, .int .i64 Mf, .slice Af mf.length kf]] at hS
                refine WL.pick rfl rfl rfl ?_
                refine WL.move rfl rfl ?_
                cases g59 : r58
                · have hv := hv.2 g59
                  refine WL.pass rfl rfl rfl ?_
                  refine WL.pass rfl rfl rfl ?_
                  refine WL.pass rfl rfl rfl ?_
                  refine WL.pass rfl rfl rfl ?_
                  refine WL.pass rfl rfl rfl ?_
                  refine WL.pick rfl rfl rfl ?_
                  refine WL.move rfl rfl ?_
                  refine WL.pass rfl rfl rfl ?_
                  refine WL.pass rfl rfl rfl ?_
                  refine WL.pass rfl rfl rfl ?_
                  refine WL.pass rfl rfl rfl ?_
                  refine WL.pass rfl rfl rfl ?_
                  refine WL.pass rfl rfl rfl ?_
                  refine WL.pick rfl rfl rfl ?_
                  refine WL.assign rfl rfl ?_
                  refine WL.done ?_
                  refine W.ret ?_
                  refine ⟨_, rfl, Fin.nil ?_⟩
                  exact ⟨_, hS.ext, (hS.pick [] rfl).rows, News.of (hS.pick [] rfl).rows rfl, ⟨false, rfl, rfl, hv⟩⟩
                · have hv := hv.1 g59
                  refine WL.take rfl ?_
                  refine WL.loadV (cs := [.int .i64 Pf, .int .i64 Mf, .slice Af mf.length kf]) Try.el24 Try.agg24 rfl rfl (Own.vcells (hS.own (i := 1) rfl)) rfl ?_
                  refine WL.take rfl ?_
                  refine WL.move rfl rfl ?_
                  refine WL.take rfl ?_
                  refine WL.move rfl rfl ?_
                  refine WL.take rfl ?_
                  refine SL.call hS (ok_rMul (hS.ro hf) hv) Try.func39 rfl Try.nm39 rfl rfl ?_
                  rintro _ _ w60 ⟨r61, rfl, rfl, hv⟩ hGw60 hS
                  change St _ _ _ _ [.ch lo21 hi22 (fun wz => GFX lo21 hi22 wz ad20 F19), .row 24 3 (some ⟨g11, 0, none⟩) 1 1 [.int .i64 Pf, .int .i64 Mf, .slice Af mf.length kf]] at hS
                  refine WL.take rfl ?_
                  refine WL.eqlD rfl rfl rfl ?_
                  refine WL.pick rfl rfl rfl ?_
                  refine WL.move rfl rfl ?_
                  by_cases g62 : r61 = (1 : Int)
                  · have hv := hv.1 g62
                    rw [decide_eq_true g62]
                    refine WL.take rfl ?_
                    refine WL.loadV (cs := [.int .i64 Pf, .int .i64 Mf, .slice Af mf.length kf]) Try.el24 Try.agg24 rfl rfl (Own.vcells (hS.own (i := 1) rfl)) rfl ?_
                    refine WL.take rfl ?_
                    refine WL.move rfl rfl ?_
                    refine WL.take rfl ?_
                    refine WL.move rfl rfl ?_
                    refine WL.take rfl ?_
                    refine SL.call hS (ok_rMul (hS.ro hf) hv) Try.func39 rfl Try.nm39 rfl rfl ?_
                    rintro _ _ w63 ⟨r64, rfl, rfl, hv⟩ hGw63 hS
                    change St _ _ _ _ [.ch lo21 hi22 (fun wz => GFX lo21 hi22 wz ad20 F19), .row 24 3 (some ⟨g11, 0, none⟩) 1 1 [.int .i64 Pf, .int .i64 Mf, .slice Af mf.length kf]] at hS
                    refine WL.take rfl ?_
                    refine WL.move rfl rfl ?_
                    refine WL.take rfl ?_
                    refine WL.eqlD rfl rfl rfl ?_
                    refine WL.pick rfl rfl rfl ?_
                    refine WL.assign rfl rfl ?_
                    refine WL.done ?_
                    refine W.ret ?_
                    refine ⟨_, rfl, Fin.nil ?_⟩
                    exact ⟨_, hS.ext, (hS.pick [] rfl).rows, News.of (hS.pick [] rfl).rows rfl, ⟨(decide (r64 = r30)), rfl, rfl, hv⟩⟩
                  · have hv := hv.2 g62
                    rw [decide_eq_false g62]
                    refine WL.pass rfl rfl rfl ?_
                    refine WL.pass rfl rfl rfl ?_
                    refine WL.pass rfl rfl rfl ?_
                    refine WL.pass rfl rfl rfl ?_
                    refine WL.pass rfl rfl rfl ?_
                    refine WL.pass rfl rfl rfl ?_
                    refine WL.pick rfl rfl rfl ?_
                    refine WL.assign rfl rfl ?_
                    refine WL.done ?_
                    refine W.ret ?_
                    refine ⟨_, rfl, Fin.nil ?_⟩
                    exact ⟨_, hS.ext, (hS.pick [] rfl).rows, News.of (hS.pick [] rfl).rows rfl, ⟨false, rfl, rfl, hv⟩⟩
            · have hv := hv.2 g53
              rw [decide_eq_false g53]
              refine WL.pass rfl rfl rfl ?_
              refine WL.pass rfl rfl rfl ?_
              refine WL.pass rfl rfl rfl ?_
              refine WL.pick rfl rfl rfl ?_
              refine WL.move rfl rfl ?_
              refine WL.pass rfl rfl rfl ?_
              refine WL.pass rfl rfl rfl ?_
              refine WL.pass rfl rfl rfl ?_
              refine WL.pick rfl rfl rfl ?_
              refine WL.move rfl rfl ?_
              refine WL.pass rfl rfl rfl ?_
              refine WL.pass rfl rfl rfl ?_
              refine WL.pass rfl rfl rfl ?_
              refine WL.pass rfl rfl rfl ?_
              refine WL.pass rfl rfl rfl ?_
              refine WL.pick rfl rfl rfl ?_
              refine WL.move rfl rfl ?_
              refine WL.pass rfl rfl rfl ?_
              refine WL.pass rfl rfl rfl ?_
              refine WL.pass rfl rfl rfl ?_
              refine WL.pass rfl rfl rfl ?_
              refine WL.pass rfl rfl rfl ?_
              refine WL.pass rfl rfl rfl ?_
              refine WL.pick rfl rfl rfl ?_
              refine WL.assign rfl rfl ?_
              refine WL.done ?_
              refine W.ret ?_
              refine ⟨_, rfl, Fin.nil ?_⟩
              exact ⟨_, hS.ext, (hS.pick [] rfl).rows, News.of (hS.pick [] rfl).rows rfl, ⟨false, rfl, rfl, hv⟩⟩
          · have hv := hv.2 g52
            rw [decide_eq_false g52]
            refine WL.pass rfl rfl rfl ?_
            refine WL.pass rfl rfl rfl ?_
            refine WL.pick rfl rfl rfl ?_
            refine WL.move rfl rfl ?_
            refine WL.pass rfl rfl rfl ?_
            refine WL.pass rfl rfl rfl ?_
            refine WL.pass rfl rfl rfl ?_
            refine WL.pick rfl rfl rfl ?_
            refine WL.move rfl rfl ?_
            refine WL.pass rfl rfl rfl ?_
            refine WL.pass rfl rfl rfl ?_
            refine WL.pass rfl rfl rfl ?_
            refine WL.pick rfl rfl rfl ?_
            refine WL.move rfl rfl ?_
            refine WL.pass rfl rfl rfl ?_
            refine WL.pass rfl rfl rfl ?_
            refine WL.pass rfl rfl rfl ?_
            refine WL.pass rfl rfl rfl ?_
            refine WL.pass rfl rfl rfl ?_
            refine WL.pick rfl rfl rfl ?_
            refine WL.move rfl rfl ?_
            refine WL.pass rfl rfl rfl ?_
            refine WL.pass rfl rfl rfl ?_
            refine WL.pass rfl rfl rfl ?_
            refine WL.pass rfl rfl rfl ?_
            refine WL.pass rfl rfl rfl ?_
            refine WL.pass rfl rfl rfl ?_
            refine WL.pick rfl rfl rfl ?_
            refine WL.assign rfl rfl ?_
            refine WL.done ?_
            refine W.ret ?_
            refine ⟨_, rfl, Fin.nil ?_⟩
            exact ⟨_, hS.ext, (hS.pick [] rfl).rows, News.of (hS.pick [] rfl).rows rfl, ⟨false, rfl, rfl, hv⟩⟩

def V_FieldPowers (Pf : Int) (Mf : Int) (mf : List Int) (x : Int) (n : Int) (Q : Bool → Prop) : Prop :=
  V_alive  (fun r14 => (((!r14) = true) → Q false) ∧ ((!r14) = false → (V_made Pf Mf mf (fun q => match q with | none => V_none Pf Mf mf (fun r26 => Q r26) | some F19 => V_Pow F19 x n (fun q => match q with | (r28, r29) => V_rPow Pf Mf mf x n (fun q => match q with | (r31, r32) => ((r28 = r31) → (Q (decide (r29 = r32)))) ∧ (¬ (r28 = r31) → Q false)))))))
theorem ok_FieldPowers {w : World} {Q : Bool → Prop} {Pf : Int} {Mf : Int} {mf : List Int} {x : Int} {n : Int} {Bf : Nat} {Af : Option Addr} {nf kf : Nat} (hf : Rd Bf w 1 Af nf kf (is mf)) (hv : V_FieldPowers Pf Mf mf x n Q) :
    Calls Try.prog 9 #[.agg #[.int .i64 Pf, .int .i64 Mf, .slice Af nf kf], .int .i64 x, .int .i64 n] w fun e w' => ∃ v Qr, e = .returned v ∧ w.grownBy w' none ∧ Rows w.heap.size none w' Qr ∧ News w.heap.size Qr ∧ ∃ (r0 : Bool), v = .bool r0 ∧ Qr = [] ∧ Q r0 := by
  have hnf := hf.ilen
  subst hnf
  refine calls_swap ?_
  refine calls_of_W (vs := [.agg #[.int .i64 Pf, .int .i64 Mf, .slice Af mf.length kf], .int .i64 x, .int .i64 n]) [6] Try.func9 rfl rfl rfl rfl ?_
  have hS := St.start w
  unfold V_FieldPowers at hv
  refine W.seq ?_
  refine W.region ?_
  refine SL.box (z := 3) (cs := [.int .i64 Pf, .int .i64 Mf, .slice Af mf.length kf]) hS rfl rfl rfl rfl ?_
  intro g11 w12 hS
  refine WL.assign rfl rfl ?_
  refine WL.done ?_
  refine W.seq ?_
  refine W.seq ?_
  refine W.region ?_
  refine SL.call hS (ok_alive  hv) Try.func17 rfl Try.nm17 rfl rfl ?_
  rintro _ _ w13 ⟨r14, rfl, rfl, hv⟩ hGw13 hS
  change St _ _ _ _ [.row 24 3 (some ⟨g11, 0, none⟩) 1 1 [.int .i64 Pf, .int .i64 Mf, .slice Af mf.length kf]] at hS
  refine WL.not rfl rfl ?_
  refine WL.done ?_
  refine W.cond2 rfl (fun c15 => ?_) (fun c15 => ?_)
  · have hv := hv.1 (c15)
    refine W.seq ?_
    refine W.region ?_
    refine WL.assign rfl rfl ?_
    refine WL.done ?_
    refine W.ret ?_
    refine ⟨_, rfl, Fin.nil ?_⟩
    exact ⟨_, hS.ext, (hS.pick [] rfl).rows, News.of (hS.pick [] rfl).rows rfl, ⟨false, rfl, rfl, hv⟩⟩
  · have hv := hv.2 (c15)
    refine W.skip ?_
    refine W.seq ?_
    refine W.region ?_
    refine WL.loadV (cs := [.int .i64 Pf, .int .i64 Mf, .slice Af mf.length kf]) Try.el24 Try.agg24 rfl rfl (Own.vcells (hS.own (i := 0) rfl)) rfl ?_
    refine SL.call hS (ok_made (hS.ro hf) hv) Try.func30 rfl Try.nm30 rfl rfl ?_
    rintro _ _ w17 ⟨o, hv, hK⟩ hGw17 hS
    cases o with
    | none =>
      obtain ⟨⟨pv24, rfl⟩, rfl⟩ := hK
      change St _ _ _ _ [.row 24 3 (some ⟨g11, 0, none⟩) 1 1 [.int .i64 Pf, .int .i64 Mf, .slice Af mf.length kf]] at hS
      refine WL.move rfl rfl ?_
      refine WL.extract rfl rfl rfl ?_
      refine WL.extract rfl rfl rfl ?_
      refine WL.assign rfl rfl ?_
      refine WL.assign rfl rfl ?_
      refine WL.done ?_
      refine W.seq ?_
      refine W.seq ?_
      refine W.region ?_
      refine WL.move rfl rfl ?_
      refine WL.not rfl rfl ?_
      refine WL.done ?_
      refine W.condT rfl ?_
      refine W.seq ?_
      refine W.region ?_
      refine WL.loadV (cs := [.int .i64 Pf, .int .i64 Mf, .slice Af mf.length kf]) Try.el24 Try.agg24 rfl rfl (Own.vcells (hS.own (i := 0) rfl)) rfl ?_
      refine SL.call hS (ok_none (hS.ro hf) hv) Try.func31 rfl Try.nm31 rfl rfl ?_
      rintro _ _ w25 ⟨r26, rfl, rfl, hv⟩ hGw25 hS
      change St _ _ _ _ [.row 24 3 (some ⟨g11, 0, none⟩) 1 1 [.int .i64 Pf, .int .i64 Mf, .slice Af mf.length kf]] at hS
      refine WL.assign rfl rfl ?_
      refine WL.done ?_
      refine W.ret ?_
      refine ⟨_, rfl, Fin.nil ?_⟩
      exact ⟨_, hS.ext, (hS.pick [] rfl).rows, News.of (hS.pick [] rfl).rows rfl, ⟨r26, rfl, rfl, hv⟩⟩
    | some F19 =>
      obtain ⟨ad20, lo21, hi22, rfl, rfl⟩ := hK
      change St _ _ _ _ [.ch lo21 hi22 (fun wz => GFX lo21 hi22 wz ad20 F19), .row 24 3 (some ⟨g11, 0, none⟩) 1 1 [.int .i64 Pf, .int .i64 Mf, .slice Af mf.length kf]] at hS
      refine WL.move rfl rfl ?_
      refine WL.extract rfl rfl rfl ?_
      refine WL.extract rfl rfl rfl ?_
      refine WL.assign rfl rfl ?_
      refine WL.assign rfl rfl ?_
      refine WL.done ?_
      refine W.seq ?_
      refine W.seq ?_
      refine W.region ?_
      refine WL.move rfl rfl ?_
      refine WL.not rfl rfl ?_
      refine WL.done ?_
      refine W.condF rfl ?_
      refine W.skip ?_
      refine W.seq ?_
      refine W.region ?_
      refine WL.move rfl rfl ?_
      refine WL.move rfl rfl ?_
      refine WL.move rfl rfl ?_
      refine SL.call hS (ok_Pow (GFX.gfr (hS.chunk (i := 0) rfl)) hv) Try.func43 rfl Try.nm43 rfl rfl ?_
      rintro _ _ w27 ⟨r28, r29, rfl, rfl, hv⟩ hGw27 hS
      change St _ _ _ _ [.ch lo21 hi22 (fun wz => GFX lo21 hi22 wz ad20 F19), .row 24 3 (some ⟨g11, 0, none⟩) 1 1 [.int .i64 Pf, .int .i64 Mf, .slice Af mf.length kf]] at hS
      refine WL.move rfl rfl ?_
      refine WL.extract rfl rfl rfl ?_
      refine WL.extract rfl rfl rfl ?_
      refine WL.assign rfl rfl ?_
      refine WL.assign rfl rfl ?_
      refine WL.done ?_
      refine W.seq ?_
      refine W.region ?_
      refine WL.loadV (cs := [.int .i64 Pf, .int .i64 Mf, .slice Af mf.length kf]) Try.el24 Try.agg24 rfl rfl (Own.vcells (hS.own (i := 1) rfl)) rfl ?_
      refine WL.move rfl rfl ?_
      refine WL.move rfl rfl ?_
      refine SL.call hS (ok_rPow (hS.ro hf) hv) Try.func44 rfl Try.nm44 rfl rfl ?_
      rintro _ _ w30 ⟨r31, r32, rfl, rfl, hv⟩ hGw30 hS
      change St _ _ _ _ [.ch lo21 hi22 (fun wz => GFX lo21 hi22 wz ad20 F19), .row 24 3 (some ⟨g11, 0, none⟩) 1 1 [.int .i64 Pf, .int .i64 Mf, .slice Af mf.length kf]] at hS
      refine WL.move rfl rfl ?_
      refine WL.extract rfl rfl rfl ?_
      refine WL.extract rfl rfl rfl ?_
      refine WL.assign rfl rfl ?_
      refine WL.assign rfl rfl ?_
      refine WL.done ?_
      refine W.seq ?_
      refine W.region ?_
      refine WL.move rfl rfl ?_
      refine WL.move rfl rfl ?_
      refine WL.eqlD rfl rfl rfl ?_
      refine WL.move rfl rfl ?_
      by_cases g33 : r28 = r31
      · have hv := hv.1 g33
        rw [decide_eq_true g33]
        refine WL.take rfl ?_
        refine WL.move rfl rfl ?_
        refine WL.take rfl ?_
        refine WL.move rfl rfl ?_
        refine WL.take rfl ?_
        refine WL.eqlD rfl rfl rfl ?_
        refine WL.pick rfl rfl rfl ?_
        refine WL.assign rfl rfl ?_
        refine WL.done ?_
        refine W.ret ?_
        refine ⟨_, rfl, Fin.nil ?_⟩
        exact ⟨_, hS.ext, (hS.pick [] rfl).rows, News.of (hS.pick [] rfl).rows rfl, ⟨(decide (r29 = r32)), rfl, rfl, hv⟩⟩
      · have hv := hv.2 g33
        rw [decide_eq_false g33]
        refine WL.pass rfl rfl rfl ?_
        refine WL.pass rfl rfl rfl ?_
        refine WL.pass rfl rfl rfl ?_
        refine WL.pick rfl rfl rfl ?_
        refine WL.assign rfl rfl ?_
        refine WL.done ?_
        refine W.ret ?_
        refine ⟨_, rfl, Fin.nil ?_⟩
        exact ⟨_, hS.ext, (hS.pick [] rfl).rows, News.of (hS.pick [] rfl).rows rfl, ⟨false, rfl, rfl, hv⟩⟩

def V_FieldAxioms (Pf : Int) (Mf : Int) (mf : List Int) (vv0 : Int) (vv1 : Int) (vv2 : Int) (Q : Bool → Prop) : Prop :=
  V_alive  (fun r16 => (((!r16) = true) → Q false) ∧ ((!r16) = false → (V_made Pf Mf mf (fun q => match q with | none => V_none Pf Mf mf (fun r38 => Q r38) | some F31 => V_Add F31 vv0 (0 : Int) (fun r40 => V_rIn Pf Mf mf vv0 (fun r42 => ((r40 ≠ r42) → Q false) ∧ (¬ (r40 ≠ r42) → (V_Mul F31 vv0 (1 : Int) (fun r45 => ((r45 ≠ r40) → Q false) ∧ (¬ (r45 ≠ r40) → (V_Add F31 vv0 vv1 (fun r48 => V_Add F31 vv1 vv0 (fun r50 => ((r48 ≠ r50) → Q false) ∧ (¬ (r48 ≠ r50) → (V_Mul F31 vv0 vv1 (fun r53 => V_Mul F31 vv1 vv0 (fun r55 => ((r53 ≠ r55) → Q false) ∧ (¬ (r53 ≠ r55) → (V_Add F31 vv0 vv1 (fun r58 => V_Add F31 r58 vv2 (fun r60 => V_Add F31 vv1 vv2 (fun r62 => V_Add F31 vv0 r62 (fun r64 => ((r60 = r64) → (V_Mul F31 vv0 vv1 (fun r67 => V_Mul F31 r67 vv2 (fun r69 => V_Mul F31 vv1 vv2 (fun r71 => V_Mul F31 vv0 r71 (fun r73 => ((r69 = r73) → (V_Add F31 vv1 vv2 (fun r76 => V_Mul F31 vv0 r76 (fun r78 => V_Mul F31 vv0 vv1 (fun r80 => V_Mul F31 vv0 vv2 (fun r82 => V_Add F31 r80 r82 (fun r84 => Q (decide (r78 = r84))))))))) ∧ (¬ (r69 = r73) → Q false))))))) ∧ (¬ (r60 = r64) → Q false))))))))))))))))))))))))
theorem ok_FieldAxioms {w : World} {Q : Bool → Prop} {Pf : Int} {Mf : Int} {mf : List Int} {vv0 : Int} {vv1 : Int} {vv2 : Int} {Bf : Nat} {Af : Option Addr} {nf kf : Nat} (hf : Rd Bf w 1 Af nf kf (is mf)) (hv : V_FieldAxioms Pf Mf mf vv0 vv1 vv2 Q) :
    Calls Try.prog 10 #[.agg #[.int .i64 Pf, .int .i64 Mf, .slice Af nf kf], .agg #[.int .i64 vv0, .int .i64 vv1, .int .i64 vv2]] w fun e w' => ∃ v Qr, e = .returned v ∧ w.grownBy w' none ∧ Rows w.heap.size none w' Qr ∧ News w.heap.size Qr ∧ ∃ (r0 : Bool), v = .bool r0 ∧ Qr = [] ∧ Q r0 := by
  have hnf := hf.ilen
  subst hnf
  refine calls_swap ?_
  refine calls_of_W (vs := [.agg #[.int .i64 Pf, .int .i64 Mf, .slice Af mf.length kf], .agg #[.int .i64 vv0, .int .i64 vv1, .int .i64 vv2]]) [4] Try.func10 rfl rfl rfl rfl ?_
  have hS := St.start w
  unfold V_FieldAxioms at hv
  refine W.seq ?_
  refine W.region ?_
  refine SL.box (z := 3) (cs := [.int .i64 Pf, .int .i64 Mf, .slice Af mf.length kf]) hS rfl rfl rfl rfl ?_
  intro g11 w12 hS
  refine SL.box (z := 3) (cs := [.int .i64 vv0, .int .i64 vv1, .int .i64 vv2]) hS rfl rfl rfl rfl ?_
  intro g13 w14 hS
  refine WL.assign rfl rfl ?_
  refine WL.done ?_
  refine W.seq ?_
  refine W.seq ?_
  refine W.region ?_
  refine SL.call hS (ok_alive  hv) Try.func17 rfl Try.nm17 rfl rfl ?_
  rintro _ _ w15 ⟨r16, rfl, rfl, hv⟩ hGw15 hS
  change St _ _ _ _ [.row 53 3 (some ⟨g13, 0, none⟩) 1 1 [.int .i64 vv0, .int .i64 vv1, .int .i64 vv2], .row 24 3 (some ⟨g11, 0, none⟩) 1 1 [.int .i64 Pf, .int .i64 Mf, .slice Af mf.length kf]] at hS
  refine WL.not rfl rfl ?_
  refine WL.done ?_
  refine W.cond2 rfl (fun c17 => ?_) (fun c17 => ?_)
  · have hv := hv.1 (c17)
    refine W.seq ?_
    refine W.region ?_
    refine WL.assign rfl rfl ?_
    refine WL.done ?_
    refine W.ret ?_
    refine ⟨_, rfl, Fin.nil ?_⟩
    exact ⟨_, hS.ext, (hS.pick [] rfl).rows, News.of (hS.pick [] rfl).rows rfl, ⟨false, rfl, rfl, hv⟩⟩
  · have hv := hv.2 (c17)
    refine W.skip ?_
    refine W.seq ?_
    have hS0 := hS
    refine W.drawX 9 (fun _ => false) (fun _ => none) [⟨[], [3], true⟩, ⟨[0], [], false⟩, ⟨[], [3], true⟩, ⟨[2], [], false⟩, ⟨[], [3], true⟩, ⟨[4], [], false⟩, ⟨[1], [], true⟩, ⟨[3], [], true⟩, ⟨[5], [], true⟩] [[(3, .pointer (some ⟨g13, 0, none⟩))], [], [(3, .pointer (some ⟨g13, 0, none⟩))], [], [(3, .pointer (some ⟨g13, 0, none⟩))], [], [], [], []] (fun iQ => [fun v _ => v = .pointer (some ⟨g13, 0, none⟩), fun v _ => v = .int .i64 vv0, fun v _ => v = .pointer (some ((⟨g13, 0, none⟩ : Addr).add 1)), fun v _ => v = .int .i64 vv1, fun v _ => v = .pointer (some ((⟨g13, 0, none⟩ : Addr).add 2)), fun v _ => v = .int .i64 vv2, fun v _ => v = .int .i64 vv0, fun v _ => v = .int .i64 vv1, fun v _ => v = .int .i64 vv2].getD iQ (fun _ _ => True)) Try.mixed (by kernel_rfl) ?_ (by kernel_rfl) ?_ ?_
    · refine Vs_monoT _ ?_
      intro VQ hVQ vQ wQ1 wQ2 hQ1 hQ2
      simp only [List.mem_cons, List.not_mem_nil, or_false] at hVQ
      rcases hVQ with rfl | rfl | rfl | rfl | rfl | rfl | rfl | rfl | rfl
      · exact hQ1
      · exact hQ1
      · exact hQ1
      · exact hQ1
      · exact hQ1
      · exact hQ1
      · exact hQ1
      · exact hQ1
      · exact hQ1
    · refine ⟨⟨rfl, ⟨rfl, trivial⟩, ?_⟩, ⟨rfl, trivial, ?_⟩, ⟨rfl, ⟨rfl, trivial⟩, ?_⟩, ⟨rfl, trivial, ?_⟩, ⟨rfl, ⟨rfl, trivial⟩, ?_⟩, ⟨rfl, trivial, ?_⟩, ⟨rfl, trivial, ?_⟩, ⟨rfl, trivial, ?_⟩, ⟨rfl, trivial, ?_⟩, trivial⟩
      · intro w18 hE
        intro RR
        refine WL.indexP 0 Try.arr53 rfl rfl rfl (by decide) rfl rfl ?_
        exact WL.done ⟨_, rfl, rfl, rfl, (fun h => absurd h (by decide)), (fun j h => by cases h)⟩
      · intro w19 hE
        have hE := hE rfl
        have hS := hS.grow hE
        rintro _ rfl
        intro RR
        refine WL.load Try.underlying3 rfl rfl (Own.vcells (hS.own (i := 0) rfl) 0 _ rfl) rfl ?_
        exact WL.done ⟨_, rfl, ext_refl _, rfl, (fun h => absurd h (by decide)), (fun j h => by cases h)⟩
      · intro w20 hE
        intro RR
        refine WL.indexP 1 Try.arr53 rfl rfl rfl (by decide) rfl rfl ?_
        exact WL.done ⟨_, rfl, rfl, rfl, (fun h => absurd h (by decide)), (fun j h => by cases h)⟩
      · intro w21 hE
        have hE := hE rfl
        have hS := hS.grow hE
        rintro _ rfl
        intro RR
        refine WL.load Try.underlying3 rfl rfl (Own.vcells (hS.own (i := 0) rfl) 1 _ rfl) rfl ?_
        exact WL.done ⟨_, rfl, ext_refl _, rfl, (fun h => absurd h (by decide)), (fun j h => by cases h)⟩
      · intro w22 hE
        intro RR
        refine WL.indexP 2 Try.arr53 rfl rfl rfl (by decide) rfl rfl ?_
        exact WL.done ⟨_, rfl, rfl, rfl, (fun h => absurd h (by decide)), (fun j h => by cases h)⟩
      · intro w23 hE
        have hE := hE rfl
        have hS := hS.grow hE
        rintro _ rfl
        intro RR
        refine WL.load Try.underlying3 rfl rfl (Own.vcells (hS.own (i := 0) rfl) 2 _ rfl) rfl ?_
        exact WL.done ⟨_, rfl, ext_refl _, rfl, (fun h => absurd h (by decide)), (fun j h => by cases h)⟩
      · intro w24 hE
        rintro _ rfl
        intro RR
        refine WL.assign rfl rfl ?_
        exact WL.done ⟨_, rfl, rfl, rfl, (fun h => absurd h (by decide)), (fun j h => by cases h)⟩
      · intro w25 hE
        rintro _ rfl
        intro RR
        refine WL.assign rfl rfl ?_
        exact WL.done ⟨_, rfl, rfl, rfl, (fun h => absurd h (by decide)), (fun j h => by cases h)⟩
      · intro w26 hE
        rintro _ rfl
        intro RR
        refine WL.assign rfl rfl ?_
        exact WL.done ⟨_, rfl, rfl, rfl, (fun h => absurd h (by decide)), (fun j h => by cases h)⟩
    · intro vals w27 hT hVs hAp hCp
      have hS := hS.grow hT
      have hv0 : vals 0 = _ := hVs 0 (by decide)
      have hv1 : vals 1 = _ := hVs 1 (by decide)
      have hv2 : vals 2 = _ := hVs 2 (by decide)
      have hv3 : vals 3 = _ := hVs 3 (by decide)
      have hv4 : vals 4 = _ := hVs 4 (by decide)
      have hv5 : vals 5 = _ := hVs 5 (by decide)
      have hv6 : vals 6 = _ := hVs 6 (by decide)
      have hv7 : vals 7 = _ := hVs 7 (by decide)
      have hv8 : vals 8 = _ := hVs 8 (by decide)
      rw [show (List.filterMap (fun i => Option.map (fun t => (t, vals i)) (dstAt _ i)) (List.range _)) = [(13, .pointer (some ⟨g13, 0, none⟩)), (14, .int .i64 vv0), (15, .pointer (some ((⟨g13, 0, none⟩ : Addr).add 1))), (16, .int .i64 vv1), (17, .pointer (some ((⟨g13, 0, none⟩ : Addr).add 2))), (18, .int .i64 vv2), (5, .int .i64 vv0), (6, .int .i64 vv1), (7, .int .i64 vv2)] from by
        show [(13, vals 0), (14, vals 1), (15, vals 2), (16, vals 3), (17, vals 4), (18, vals 5), (5, vals 6), (6, vals 7), (7, vals 8)] = _
        rw [hv0, hv1, hv2, hv3, hv4, hv5, hv6, hv7, hv8]]
      refine WA.done (by decide +kernel) ?_
      refine W.seq ?_
      refine W.region ?_
      refine WL.loadV (cs := [.int .i64 Pf, .int .i64 Mf, .slice Af mf.length kf]) Try.el24 Try.agg24 rfl rfl (Own.vcells (hS.own (i := 1) rfl)) rfl ?_
      refine SL.call hS (ok_made (hS.ro hf) hv) Try.func30 rfl Try.nm30 rfl rfl ?_
      rintro _ _ w29 ⟨o, hv, hK⟩ hGw29 hS
      cases o with
      | none =>
        obtain ⟨⟨pv36, rfl⟩, rfl⟩ := hK
        change St _ _ _ _ [.row 53 3 (some ⟨g13, 0, none⟩) 1 1 [.int .i64 vv0, .int .i64 vv1, .int .i64 vv2], .row 24 3 (some ⟨g11, 0, none⟩) 1 1 [.int .i64 Pf, .int .i64 Mf, .slice Af mf.length kf]] at hS
        refine WL.move rfl rfl ?_
        refine WL.extract rfl rfl rfl ?_
        refine WL.extract rfl rfl rfl ?_
        refine WL.assign rfl rfl ?_
        refine WL.assign rfl rfl ?_
        refine WL.done ?_
        refine W.seq ?_
        refine W.seq ?_
        refine W.region ?_
        refine WL.move rfl rfl ?_
        refine WL.not rfl rfl ?_
        refine WL.done ?_
        refine W.condT rfl ?_
        refine W.seq ?_
        refine W.region ?_
        refine WL.loadV (cs := [.int .i64 Pf, .int .i64 Mf, .slice Af mf.length kf]) Try.el24 Try.agg24 rfl rfl (Own.vcells (hS.own (i := 1) rfl)) rfl ?_
        refine SL.call hS (ok_none (hS.ro hf) hv) Try.func31 rfl Try.nm31 rfl rfl ?_
        rintro _ _ w37 ⟨r38, rfl, rfl, hv⟩ hGw37 hS
        change St _ _ _ _ [.row 53 3 (some ⟨g13, 0, none⟩) 1 1 [.int .i64 vv0, .int .i64 vv1, .int .i64 vv2], .row 24 3 (some ⟨g11, 0, none⟩) 1 1 [.int .i64 Pf, .int .i64 Mf, .slice Af mf.length kf]] at hS
        refine WL.assign rfl rfl ?_
        refine WL.done ?_
        refine W.ret ?_
        refine ⟨_, rfl, Fin.nil ?_⟩
        exact ⟨_, hS.ext, (hS.pick [] rfl).rows, News.of (hS.pick [] rfl).rows rfl, ⟨r38, rfl, rfl, hv⟩⟩
      | some F31 =>
        obtain ⟨ad32, lo33, hi34, rfl, rfl⟩ := hK
        change St _ _ _ _ [.ch lo33 hi34 (fun wz => GFX lo33 hi34 wz ad32 F31), .row 53 3 (some ⟨g13, 0, none⟩) 1 1 [.int .i64 vv0, .int .i64 vv1, .int .i64 vv2], .row 24 3 (some ⟨g11, 0, none⟩) 1 1 [.int .i64 Pf, .int .i64 Mf, .slice Af mf.length kf]] at hS
        refine WL.move rfl rfl ?_
        refine WL.extract rfl rfl rfl ?_
        refine WL.extract rfl rfl rfl ?_
        refine WL.assign rfl rfl ?_
        refine WL.assign rfl rfl ?_
        refine WL.done ?_
        refine W.seq ?_
        refine W.seq ?_
        refine W.region ?_
        refine WL.move rfl rfl ?_
        refine WL.not rfl rfl ?_
        refine WL.done ?_
        refine W.condF rfl ?_
        refine W.skip ?_
        refine W.seq ?_
        refine W.region ?_
        refine WL.move rfl rfl ?_
        refine WL.move rfl rfl ?_
        refine SL.call hS (ok_Add (GFX.gfr (hS.chunk (i := 0) rfl)) hv) Try.func32 rfl Try.nm32 rfl rfl ?_
        rintro _ _ w39 ⟨r40, rfl, rfl, hv⟩ hGw39 hS
        change St _ _ _ _ [.ch lo33 hi34 (fun wz => GFX lo33 hi34 wz ad32 F31), .row 53 3 (some ⟨g13, 0, none⟩) 1 1 [.int .i64 vv0, .int .i64 vv1, .int .i64 vv2], .row 24 3 (some ⟨g11, 0, none⟩) 1 1 [.int .i64 Pf, .int .i64 Mf, .slice Af mf.length kf]] at hS
        refine WL.assign rfl rfl ?_
        refine WL.done ?_
        refine W.seq ?_
        refine W.seq ?_
        refine W.region ?_
        refine WL.move rfl rfl ?_
        refine WL.loadV (cs := [.int .i64 Pf, .int .i64 Mf, .slice Af mf.length kf]) Try.el24 Try.agg24 rfl rfl (Own.vcells (hS.own (i := 2) rfl)) rfl ?_
        refine WL.move rfl rfl ?_
        refine SL.call hS (ok_rIn (hS.ro hf) hv) Try.func40 rfl Try.nm40 rfl rfl ?_
        rintro _ _ w41 ⟨r42, rfl, rfl, hv⟩ hGw41 hS
        change St _ _ _ _ [.ch lo33 hi34 (fun wz => GFX lo33 hi34 wz ad32 F31), .row 53 3 (some ⟨g13, 0, none⟩) 1 1 [.int .i64 vv0, .int .i64 vv1, .int .i64 vv2], .row 24 3 (some ⟨g11, 0, none⟩) 1 1 [.int .i64 Pf, .int .i64 Mf, .slice Af mf.length kf]] at hS
        refine WL.neqD rfl rfl rfl ?_
        refine WL.move rfl rfl ?_
        by_cases g43 : r40 ≠ r42
        · have hv := hv.1 g43
          rw [decide_eq_true g43]
          refine WL.pass rfl rfl rfl ?_
          refine WL.pass rfl rfl rfl ?_
          refine WL.pass rfl rfl rfl ?_
          refine WL.pass rfl rfl rfl ?_
          refine WL.pass rfl rfl rfl ?_
          refine WL.pick rfl rfl rfl ?_
          refine WL.move rfl rfl ?_
          refine WL.pass rfl rfl rfl ?_
          refine WL.pass rfl rfl rfl ?_
          refine WL.pass rfl rfl rfl ?_
          refine WL.pass rfl rfl rfl ?_
          refine WL.pass rfl rfl rfl ?_
          refine WL.pass rfl rfl rfl ?_
          refine WL.pass rfl rfl rfl ?_
          refine WL.pass rfl rfl rfl ?_
          refine WL.pass rfl rfl rfl ?_
          refine WL.pick rfl rfl rfl ?_
          refine WL.move rfl rfl ?_
          refine WL.pass rfl rfl rfl ?_
          refine WL.pass rfl rfl rfl ?_
          refine WL.pass rfl rfl rfl ?_
          refine WL.pass rfl rfl rfl ?_
          refine WL.pass rfl rfl rfl ?_
          refine WL.pass rfl rfl rfl ?_
          refine WL.pass rfl rfl rfl ?_
          refine WL.pass rfl rfl rfl ?_
          refine WL.pass rfl rfl rfl ?_
          refine WL.pick rfl rfl rfl ?_
          refine WL.done ?_
          refine W.condT rfl ?_
          refine W.seq ?_
          refine W.region ?_
          refine WL.assign rfl rfl ?_
          refine WL.done ?_
          refine W.ret ?_
          refine ⟨_, rfl, Fin.nil ?_⟩
          exact ⟨_, hS.ext, (hS.pick [] rfl).rows, News.of (hS.pick [] rfl).rows rfl, ⟨false, rfl, rfl, hv⟩⟩
        · have hv := hv.2 g43
          rw [decide_eq_false g43]
          refine WL.take rfl ?_
          refine WL.move rfl rfl ?_
          refine WL.take rfl ?_
          refine WL.move rfl rfl ?_
          refine WL.take rfl ?_
          refine SL.call hS (ok_Mul (GFX.gfr (hS.chunk (i := 0) rfl)) hv) Try.func38 rfl Try.nm38 rfl rfl ?_
          rintro _ _ w44 ⟨r45, rfl, rfl, hv⟩ hGw44 hS
          change St _ _ _ _ [.ch lo33 hi34 (fun wz => GFX lo33 hi34 wz ad32 F31), .row 53 3 (some ⟨g13, 0, none⟩) 1 1 [.int .i64 vv0, .int .i64 vv1, .int .i64 vv2], .row 24 3 (some ⟨g11, 0, none⟩) 1 1 [.int .i64 Pf, .int .i64 Mf, .slice Af mf.length kf]] at hS
          refine WL.take rfl ?_
          refine WL.move rfl rfl ?_
          refine WL.take rfl ?_
          refine WL.neqD rfl rfl rfl ?_
          refine WL.pick rfl rfl rfl ?_
          refine WL.move rfl rfl ?_
          by_cases g46 : r45 ≠ r40
          · have hv := hv.1 g46
            rw [decide_eq_true g46]
            refine WL.pass rfl rfl rfl ?_
            refine WL.pass rfl rfl rfl ?_
            refine WL.pass rfl rfl rfl ?_
            refine WL.pass rfl rfl rfl ?_
            refine WL.pass rfl rfl rfl ?_
            refine WL.pass rfl rfl rfl ?_
            refine WL.pass rfl rfl rfl ?_
            refine WL.pass rfl rfl rfl ?_
            refine WL.pass rfl rfl rfl ?_
            refine WL.pick rfl rfl rfl ?_
            refine WL.move rfl rfl ?_
            refine WL.pass rfl rfl rfl ?_
            refine WL.pass rfl rfl rfl ?_
            refine WL.pass rfl rfl rfl ?_
            refine WL.pass rfl rfl rfl ?_
            refine WL.pass rfl rfl rfl ?_
            refine WL.pass rfl rfl rfl ?_
            refine WL.pass rfl rfl rfl ?_
            refine WL.pass rfl rfl rfl ?_
            refine WL.pass rfl rfl rfl ?_
            refine WL.pick rfl rfl rfl ?_
            refine WL.done ?_
            refine W.condT rfl ?_
            refine W.seq ?_
            refine W.region ?_
            refine WL.assign rfl rfl ?_
            refine WL.done ?_
            refine W.ret ?_
            refine ⟨_, rfl, Fin.nil ?_⟩
            exact ⟨_, hS.ext, (hS.pick [] rfl).rows, News.of (hS.pick [] rfl).rows rfl, ⟨false, rfl, rfl, hv⟩⟩
          · have hv := hv.2 g46
            rw [decide_eq_false g46]
            refine WL.take rfl ?_
            refine WL.move rfl rfl ?_
            refine WL.take rfl ?_
            refine WL.move rfl rfl ?_
            refine WL.take rfl ?_
            refine WL.move rfl rfl ?_
            refine WL.take rfl ?_
            refine SL.call hS (ok_Add (GFX.gfr (hS.chunk (i := 0) rfl)) hv) Try.func32 rfl Try.nm32 rfl rfl ?_
            rintro _ _ w47 ⟨r48, rfl, rfl, hv⟩ hGw47 hS
            change St _ _ _ _ [.ch lo33 hi34 (fun wz => GFX lo33 hi34 wz ad32 F31), .row 53 3 (some ⟨g13, 0, none⟩) 1 1 [.int .i64 vv0, .int .i64 vv1, .int .i64 vv2], .row 24 3 (some ⟨g11, 0, none⟩) 1 1 [.int .i64 Pf, .int .i64 Mf, .slice Af mf.length kf]] at hS
            refine WL.take rfl ?_
            refine WL.move rfl rfl ?_
            refine WL.take rfl ?_
            refine WL.move rfl rfl ?_
            refine WL.take rfl ?_
            refine WL.move rfl rfl ?_
            refine WL.take rfl ?_
            refine SL.call hS (ok_Add (GFX.gfr (hS.chunk (i := 0) rfl)) hv) Try.func32 rfl Try.nm32 rfl rfl ?_
            rintro _ _ w49 ⟨r50, rfl, rfl, hv⟩ hGw49 hS
            change St _ _ _ _ [.ch lo33 hi34 (fun wz => GFX lo33 hi34 wz ad32 F31), .row 53 3 (some ⟨g13, 0, none⟩) 1 1 [.int .i64 vv0, .int .i64 vv1, .int .i64 vv2], .row 24 3 (some ⟨g11, 0, none⟩) 1 1 [.int .i64 Pf, .int .i64 Mf, .slice Af mf.length kf]] at hS
            refine WL.take rfl ?_
            refine WL.neqD rfl rfl rfl ?_
            refine WL.pick rfl rfl rfl ?_
            refine WL.move rfl rfl ?_
            by_cases g51 : r48 ≠ r50
            · have hv := hv.1 g51
              rw [decide_eq_true g51]
              refine WL.pass rfl rfl rfl ?_
              refine WL.pass rfl rfl rfl ?_
              refine WL.pass rfl rfl rfl ?_
              refine WL.pass rfl rfl rfl ?_
              refine WL.pass rfl rfl rfl ?_
              refine WL.pass rfl rfl rfl ?_
              refine WL.pass rfl rfl rfl ?_
              refine WL.pass rfl rfl rfl ?_
              refine WL.pass rfl rfl rfl ?_
              refine WL.pick rfl rfl rfl ?_
              refine WL.done ?_
              refine W.condT rfl ?_
              refine W.seq ?_
              refine W.region ?_
              refine WL.assign rfl rfl ?_
              refine WL.done ?_
              refine W.ret ?_
              refine ⟨_, rfl, Fin.nil ?_⟩
              exact ⟨_, hS.ext, (hS.pick [] rfl).rows, News.of (hS.pick [] rfl).rows rfl, ⟨false, rfl, rfl, hv⟩⟩
            · have hv := hv.2 g51
              rw [decide_eq_false g51]
              refine WL.take rfl ?_
              refine WL.move rfl rfl ?_
              refine WL.take rfl ?_
              refine WL.move rfl rfl ?_
              refine WL.take rfl ?_
              refine WL.move rfl rfl ?_
              refine WL.take rfl ?_
              refine SL.call hS (ok_Mul (GFX.gfr (hS.chunk (i := 0) rfl)) hv) Try.func38 rfl Try.nm38 rfl rfl ?_
              rintro _ _ w52 ⟨r53, rfl, rfl, hv⟩ hGw52 hS
              change St _ _ _ _ [.ch lo33 hi34 (fun wz => GFX lo33 hi34 wz ad32 F31), .row 53 3 (some ⟨g13, 0, none⟩) 1 1 [.int .i64 vv0, .int .i64 vv1, .int .i64 vv2], .row 24 3 (some ⟨g11, 0, none⟩) 1 1 [.int .i64 Pf, .int .i64 Mf, .slice Af mf.length kf]] at hS
              refine WL.take rfl ?_
              refine WL.move rfl rfl ?_
              refine WL.take rfl ?_
              refine WL.move rfl rfl ?_
              refine WL.take rfl ?_
              refine WL.move rfl rfl ?_
              refine WL.take rfl ?_
              refine SL.call hS (ok_Mul (GFX.gfr (hS.chunk (i := 0) rfl)) hv) Try.func38 rfl Try.nm38 rfl rfl ?_
              rintro _ _ w54 ⟨r55, rfl, rfl, hv⟩ hGw54 hS
              change St _ _ _ _ [.ch lo33 hi34 (fun wz => GFX lo33 hi34 wz ad32 F31), .row 53 3 (some ⟨g13, 0, none⟩) 1 1 [.int .i64 vv0, .int .i64 vv1, .int .i64 vv2], .row 24 3 (some ⟨g11, 0, none⟩) 1 1 [.int .i64 Pf, .int .i64 Mf, .slice Af mf.length kf]] at hS
              refine WL.take rfl ?_
              refine WL.neqD rfl rfl rfl ?_
              refine WL.pick rfl rfl rfl ?_
              refine WL.done ?_
              refine W.cond2 rfl (fun c56 => ?_) (fun c56 => ?_)
              · have hv := hv.1 (of_decide_eq_true c56)
                refine W.seq ?_
                refine W.region ?_
                refine WL.assign rfl rfl ?_
                refine WL.done ?_
                refine W.ret ?_
                refine ⟨_, rfl, Fin.nil ?_⟩
                exact ⟨_, hS.ext, (hS.pick [] rfl).rows, News.of (hS.pick [] rfl).rows rfl, ⟨false, rfl, rfl, hv⟩⟩
              · have hv := hv.2 (of_decide_eq_false c56)
                refine W.skip ?_
                refine W.seq ?_
                refine W.region ?_
                refine WL.move rfl rfl ?_
                refine WL.move rfl rfl ?_
                refine WL.move rfl rfl ?_
                refine WL.move rfl rfl ?_
                refine SL.call hS (ok_Add (GFX.gfr (hS.chunk (i := 0) rfl)) hv) Try.func32 rfl Try.nm32 rfl rfl ?_
                rintro _ _ w57 ⟨r58, rfl, rfl, hv⟩ hGw57 hS
                change St _ _ _ _ [.ch lo33 hi34 (fun wz => GFX lo33 hi34 wz ad32 F31), .row 53 3 (some ⟨g13, 0, none⟩) 1 1 [.int .i64 vv0, .int .i64 vv1, .int .i64 vv2], .row 24 3 (some ⟨g11, 0, none⟩) 1 1 [.int .i64 Pf, .int .i64 Mf, .slice Af mf.length kf]] at hS
                refine WL.move rfl rfl ?_
                refine SL.call hS (ok_Add (GFX.gfr (hS.chunk (i := 0) rfl)) hv) Try.func32 rfl Try.nm32 rfl rfl ?_
                rintro _ _ w59 ⟨r60, rfl, rfl, hv⟩ hGw59 hS
                change St _ _ _ _ [.ch lo33 hi34 (fun wz => GFX lo33 hi34 wz ad32 F31), .row 53 3 (some ⟨g13, 0, none⟩) 1 1 [.int .i64 vv0, .int .i64 vv1, .int .i64 vv2], .row 24 3 (some ⟨g11, 0, none⟩) 1 1 [.int .i64 Pf, .int .i64 Mf, .slice Af mf.length kf]] at hS
                refine WL.move rfl rfl ?_
                refine WL.move rfl rfl ?_
                refine WL.move rfl rfl ?_
                refine WL.move rfl rfl ?_
                refine WL.move rfl rfl ?_
                refine SL.call hS (ok_Add (GFX.gfr (hS.chunk (i := 0) rfl)) hv) Try.func32 rfl Try.nm32 rfl rfl ?_
                rintro _ _ w61 ⟨r62, rfl, rfl, hv⟩ hGw61 hS
                change St _ _ _ _ [.ch lo33 hi34 (fun wz => GFX lo33 hi34 wz ad32 F31), .row 53 3 (some ⟨g13, 0, none⟩) 1 1 [.int .i64 vv0, .int .i64 vv1, .int .i64 vv2], .row 24 3 (some ⟨g11, 0, none⟩) 1 1 [.int .i64 Pf, .int .i64 Mf, .slice Af mf.length kf]] at hS
                refine SL.call hS (ok_Add (GFX.gfr (hS.chunk (i := 0) rfl)) hv) Try.func32 rfl Try.nm32 rfl rfl ?_
                rintro _ _ w63 ⟨r64, rfl, rfl, hv⟩ hGw63 hS
                change St _ _ _ _ [.ch lo33 hi34 (fun wz => GFX lo33 hi34 wz ad32 F31), .row 53 3 (some ⟨g13, 0, none⟩) 1 1 [.int .i64 vv0, .int .i64 vv1, .int .i64 vv2], .row 24 3 (some ⟨g11, 0, none⟩) 1 1 [.int .i64 Pf, .int .i64 Mf, .slice Af mf.length kf]] at hS
                refine WL.eqlD rfl rfl rfl ?_
                refine WL.move rfl rfl ?_
                by_cases g65 : r60 = r64
                · have hv := hv.1 g65
                  rw [decide_eq_true g65]
                  refine WL.take rfl ?_
                  refine WL.move rfl rfl ?_
                  refine WL.take rfl ?_
                  refine WL.move rfl rfl ?_
                  refine WL.take rfl ?_
                  refine WL.move rfl rfl ?_
                  refine WL.take rfl ?_
                  refine WL.move rfl rfl ?_
                  refine WL.take rfl ?_
                  refine SL.call hS (ok_Mul (GFX.gfr (hS.chunk (i := 0) rfl)) hv) Try.func38 rfl Try.nm38 rfl rfl ?_
                  rintro _ _ w66 ⟨r67, rfl, rfl, hv⟩ hGw66 hS
                  change St _ _ _ _ [.ch lo33 hi34 (fun wz => GFX lo33 hi34 wz ad32 F31), .row 53 3 (some ⟨g13, 0, none⟩) 1 1 [.int .i64 vv0, .int .i64 vv1, .int .i64 vv2], .row 24 3 (some ⟨g11, 0, none⟩) 1 1 [.int .i64 Pf, .int .i64 Mf, .slice Af mf.length kf]] at hS
                  refine WL.take rfl ?_
                  refine WL.move rfl rfl ?_
                  refine WL.take rfl ?_
                  refine SL.call hS (ok_Mul (GFX.gfr (hS.chunk (i := 0) rfl)) hv) Try.func38 rfl Try.nm38 rfl rfl ?_
                  rintro _ _ w68 ⟨r69, rfl, rfl, hv⟩ hGw68 hS
                  change St _ _ _ _ [.ch lo33 hi34 (fun wz => GFX lo33 hi34 wz ad32 F31), .row 53 3 (some ⟨g13, 0, none⟩) 1 1 [.int .i64 vv0, .int .i64 vv1, .int .i64 vv2], .row 24 3 (some ⟨g11, 0, none⟩) 1 1 [.int .i64 Pf, .int .i64 Mf, .slice Af mf.length kf]] at hS
                  refine WL.take rfl ?_
                  refine WL.move rfl rfl ?_
                  refine WL.take rfl ?_
                  refine WL.move rfl rfl ?_
                  refine WL.take rfl ?_
                  refine WL.move rfl rfl ?_
                  refine WL.take rfl ?_
                  refine WL.move rfl rfl ?_
                  refine WL.take rfl ?_
                  refine WL.move rfl rfl ?_
                  refine WL.take rfl ?_
                  refine SL.call hS (ok_Mul (GFX.gfr (hS.chunk (i := 0) rfl)) hv) Try.func38 rfl Try.nm38 rfl rfl ?_
                  rintro _ _ w70 ⟨r71, rfl, rfl, hv⟩ hGw70 hS
                  change St _ _ _ _ [.ch lo33 hi34 (fun wz => GFX lo33 hi34 wz ad32 F31), .row 53 3 (some ⟨g13, 0, none⟩) 1 1 [.int .i64 vv0, .int .i64 vv1, .int .i64 vv2], .row 24 3 (some ⟨g11, 0, none⟩) 1 1 [.int .i64 Pf, .int .i64 Mf, .slice Af mf.length kf]] at hS
                  refine WL.take rfl ?_
                  refine SL.call hS (ok_Mul (GFX.gfr (hS.chunk (i := 0) rfl)) hv) Try.func38 rfl Try.nm38 rfl rfl ?_
                  rintro _ _ w72 ⟨r73, rfl, rfl, hv⟩ hGw72 hS
                  change St _ _ _ _ [.ch lo33 hi34 (fun wz => GFX lo33 hi34 wz ad32 F31), .row 53 3 (some ⟨g13, 0, none⟩) 1 1 [.int .i64 vv0, .int .i64 vv1, .int .i64 vv2], .row 24 3 (some ⟨g11, 0, none⟩) 1 1 [.int .i64 Pf, .int .i64 Mf, .slice Af mf.length kf]] at hS
                  refine WL.take rfl ?_
                  refine WL.eqlD rfl rfl rfl ?_
                  refine WL.pick rfl rfl rfl ?_
                  refine WL.move rfl rfl ?_
                  by_cases g74 : r69 = r73
                  · have hv := hv.1 g74
                    rw [decide_eq_true g74]
                    refine WL.take rfl ?_
                    refine WL.move rfl rfl ?_
                    refine WL.take rfl ?_
                    refine WL.move rfl rfl ?_
                    refine WL.take rfl ?_
                    refine WL.move rfl rfl ?_
                    refine WL.take rfl ?_
                    refine WL.move rfl rfl ?_
                    refine WL.take rfl ?_
                    refine WL.move rfl rfl ?_
                    refine WL.take rfl ?_
                    refine SL.call hS (ok_Add (GFX.gfr (hS.chunk (i := 0) rfl)) hv) Try.func32 rfl Try.nm32 rfl rfl ?_
                    rintro _ _ w75 ⟨r76, rfl, rfl, hv⟩ hGw75 hS
                    change St _ _ _ _ [.ch lo33 hi34 (fun wz => GFX lo33 hi34 wz ad32 F31), .row 53 3 (some ⟨g13, 0, none⟩) 1 1 [.int .i64 vv0, .int .i64 vv1, .int .i64 vv2], .row 24 3 (some ⟨g11, 0, none⟩) 1 1 [.int .i64 Pf, .int .i64 Mf, .slice Af mf.length kf]] at hS
                    refine WL.take rfl ?_
                    refine SL.call hS (ok_Mul (GFX.gfr (hS.chunk (i := 0) rfl)) hv) Try.func38 rfl Try.nm38 rfl rfl ?_
                    rintro _ _ w77 ⟨r78, rfl, rfl, hv⟩ hGw77 hS
                    change St _ _ _ _ [.ch lo33 hi34 (fun wz => GFX lo33 hi34 wz ad32 F31), .row 53 3 (some ⟨g13, 0, none⟩) 1 1 [.int .i64 vv0, .int .i64 vv1, .int .i64 vv2], .row 24 3 (some ⟨g11, 0, none⟩) 1 1 [.int .i64 Pf, .int .i64 Mf, .slice Af mf.length kf]] at hS
                    refine WL.take rfl ?_
                    refine WL.move rfl rfl ?_
                    refine WL.take rfl ?_
                    refine WL.move rfl rfl ?_
                    refine WL.take rfl ?_
                    refine WL.move rfl rfl ?_
                    refine WL.take rfl ?_
                    refine WL.move rfl rfl ?_
                    refine WL.take rfl ?_
                    refine SL.call hS (ok_Mul (GFX.gfr (hS.chunk (i := 0) rfl)) hv) Try.func38 rfl Try.nm38 rfl rfl ?_
                    rintro _ _ w79 ⟨r80, rfl, rfl, hv⟩ hGw79 hS
                    change St _ _ _ _ [.ch lo33 hi34 (fun wz => GFX lo33 hi34 wz ad32 F31), .row 53 3 (some ⟨g13, 0, none⟩) 1 1 [.int .i64 vv0, .int .i64 vv1, .int .i64 vv2], .row 24 3 (some ⟨g11, 0, none⟩) 1 1 [.int .i64 Pf, .int .i64 Mf, .slice Af mf.length kf]] at hS
                    refine WL.take rfl ?_
                    refine WL.move rfl rfl ?_
                    refine WL.take rfl ?_
                    refine WL.move rfl rfl ?_
                    refine WL.take rfl ?_
                    refine WL.move rfl rfl ?_
                    refine WL.take rfl ?_
                    refine SL.call hS (ok_Mul (GFX.gfr (hS.chunk (i := 0) rfl)) hv) Try.func38 rfl Try.nm38 rfl rfl ?_
                    rintro _ _ w81 ⟨r82, rfl, rfl, hv⟩ hGw81 hS
                    change St _ _ _ _ [.ch lo33 hi34 (fun wz => GFX lo33 hi34 wz ad32 F31), .row 53 3 (some ⟨g13, 0, none⟩) 1 1 [.int .i64 vv0, .int .i64 vv1, .int .i64 vv2], .row 24 3 (some ⟨g11, 0, none⟩) 1 1 [.int .i64 Pf, .int .i64 Mf, .slice Af mf.length kf]] at hS
                    refine WL.take rfl ?_
                    refine SL.call hS (ok_Add (GFX.gfr (hS.chunk (i := 0) rfl)) hv) Try.func32 rfl Try.nm32 rfl rfl ?_
                    rintro _ _ w83 ⟨r84, rfl, rfl, hv⟩ hGw83 hS
                    change St _ _ _ _ [.ch lo33 hi34 (fun wz => GFX lo33 hi34 wz ad32 F31), .row 53 3 (some ⟨g13, 0, none⟩) 1 1 [.int .i64 vv0, .int .i64 vv1, .int .i64 vv2], .row 24 3 (some ⟨g11, 0, none⟩) 1 1 [.int .i64 Pf, .int .i64 Mf, .slice Af mf.length kf]] at hS
                    refine WL.take rfl ?_
                    refine WL.eqlD rfl rfl rfl ?_
                    refine WL.pick rfl rfl rfl ?_
                    refine WL.assign rfl rfl ?_
                    refine WL.done ?_
                    refine W.ret ?_
                    refine ⟨_, rfl, Fin.nil ?_⟩
                    exact ⟨_, hS.ext, (hS.pick [] rfl).rows, News.of (hS.pick [] rfl).rows rfl, ⟨(decide (r78 = r84)), rfl, rfl, hv⟩⟩
                  · have hv := hv.2 g74
                    rw [decide_eq_false g74]
                    refine WL.pass rfl rfl rfl ?_
                    refine WL.pass rfl rfl rfl ?_
                    refine WL.pass rfl rfl rfl ?_
                    refine WL.pass rfl rfl rfl ?_
                    refine WL.pass rfl rfl rfl ?_
                    refine WL.pass rfl rfl rfl ?_
                    refine WL.pass rfl rfl rfl ?_
                    refine WL.pass rfl rfl rfl ?_
                    refine WL.pass rfl rfl rfl ?_
                    refine WL.pass rfl rfl rfl ?_
                    refine WL.pass rfl rfl rfl ?_
                    refine WL.pass rfl rfl rfl ?_
                    refine WL.pass rfl rfl rfl ?_
                    refine WL.pass rfl rfl rfl ?_
                    refine WL.pass rfl rfl rfl ?_
                    refine WL.pass rfl rfl rfl ?_
                    refine WL.pass rfl rfl rfl ?_
                    refine WL.pass rfl rfl rfl ?_
                    refine WL.pick rfl rfl rfl ?_
                    refine WL.assign rfl rfl ?_
                    refine WL.done ?_
                    refine W.ret ?_
                    refine ⟨_, rfl, Fin.nil ?_⟩
                    exact ⟨_, hS.ext, (hS.pick [] rfl).rows, News.of (hS.pick [] rfl).rows rfl, ⟨false, rfl, rfl, hv⟩⟩
                · have hv := hv.2 g65
                  rw [decide_eq_false g65]
                  refine WL.pass rfl rfl rfl ?_
                  refine WL.pass rfl rfl rfl ?_
                  refine WL.pass rfl rfl rfl ?_
                  refine WL.pass rfl rfl rfl ?_
                  refine WL.pass rfl rfl rfl ?_
                  refine WL.pass rfl rfl rfl ?_
                  refine WL.pass rfl rfl rfl ?_
                  refine WL.pass rfl rfl rfl ?_
                  refine WL.pass rfl rfl rfl ?_
                  refine WL.pass rfl rfl rfl ?_
                  refine WL.pass rfl rfl rfl ?_
                  refine WL.pass rfl rfl rfl ?_
                  refine WL.pass rfl rfl rfl ?_
                  refine WL.pass rfl rfl rfl ?_
                  refine WL.pass rfl rfl rfl ?_
                  refine WL.pick rfl rfl rfl ?_
                  refine WL.move rfl rfl ?_
                  refine WL.pass rfl rfl rfl ?_
                  refine WL.pass rfl rfl rfl ?_
                  refine WL.pass rfl rfl rfl ?_
                  refine WL.pass rfl rfl rfl ?_
                  refine WL.pass rfl rfl rfl ?_
                  refine WL.pass rfl rfl rfl ?_
                  refine WL.pass rfl rfl rfl ?_
                  refine WL.pass rfl rfl rfl ?_
                  refine WL.pass rfl rfl rfl ?_
                  refine WL.pass rfl rfl rfl ?_
                  refine WL.pass rfl rfl rfl ?_
                  refine WL.pass rfl rfl rfl ?_
                  refine WL.pass rfl rfl rfl ?_
                  refine WL.pass rfl rfl rfl ?_
                  refine WL.pass rfl rfl rfl ?_
                  refine WL.pass rfl rfl rfl ?_
                  refine WL.pass rfl rfl rfl ?_
                  refine WL.pass rfl rfl rfl ?_
                  refine WL.pick rfl rfl rfl ?_
                  refine WL.assign rfl rfl ?_
                  refine WL.done ?_
                  refine W.ret ?_
                  refine ⟨_, rfl, Fin.nil ?_⟩
                  exact ⟨_, hS.ext, (hS.pick [] rfl).rows, News.of (hS.pick [] rfl).rows rfl, ⟨false, rfl, rfl, hv⟩⟩

def V_FieldFrobenius (Pf : Int) (Mf : Int) (mf : List Int) (x : Int) (y : Int) (Q : Bool → Prop) : Prop :=
  V_alive  (fun r14 => (((!r14) = true) → Q false) ∧ ((!r14) = false → (V_made Pf Mf mf (fun q => match q with | none => V_none Pf Mf mf (fun r26 => Q r26) | some F19 => V_Pow F19 x Pf (fun q => match q with | (r28, r29) => V_Pow F19 y Pf (fun q => match q with | (r31, r32) => ∃ (r38 : Int), V_Add F19 x y (fun q => q = r38) ∧ (∃ (r44 : Int) (r45 : Int), V_Pow F19 r38 Pf (fun q => q = (r44, r45)) ∧ (V_Order F19 (fun r55 => V_Pow F19 x r55 (fun q => match q with | (r57, r58) => V_Add F19 r28 r31 (fun r60 => ((r44 = r60) → (V_rIn Pf Mf mf x (fun r63 => Q (decide (r57 = r63))))) ∧ (¬ (r44 = r60) → Q false))))))))))))
def V_FieldLists (Pf : Int) (Mf : Int) (mf : List Int) (x : Int) (vv0 : List Int) (vv1 : List Int) (Q : Bool → Prop) : Prop :=
  V_alive  (fun r16 => (((!r16) = true) → Q false) ∧ ((!r16) = false → (V_made Pf Mf mf (fun q => match q with | none => V_none Pf Mf mf (fun r35 => Q r35) | some F28 => (((300 : Int) < ((vv0.length : Nat) : Int)) → Q true) ∧ (¬ ((300 : Int) < ((vv0.length : Nat) : Int)) → ((((300 : Int) < ((vv1.length : Nat) : Int)) → Q true) ∧ (¬ ((300 : Int) < ((vv1.length : Nat) : Int)) → (V_Scale F28 x vv0 (fun x39 => ((((x39.length : Nat) : Int) ≠ ((vv0.length : Nat) : Int)) → Q false) ∧ (¬ (((x39.length : Nat) : Int) ≠ ((vv0.length : Nat) : Int)) → (∃ (I50 : Int → Int → Prop) (μ51 : Int → Int → Nat), I50 (0 : Int) (0 : Int) ∧ ∀ (z48 : Int) (z49 : Int), (I50 z48 z49 → (((z49 < ((vv0.length : Nat) : Int)) → ((0 ≤ z49 ∧ z49 < (vv0.length : Nat)) ∧ (V_rAdd Pf Mf mf z48 (gi vv0 z49) (fun r56 => (0 ≤ z49 ∧ z49 < (x39.length : Nat)) ∧ (∃ (r66 : Int), V_rMul Pf Mf mf x (gi vv0 z49) (fun q => q = r66) ∧ ((((gi x39 z49) ≠ r66) → Q false) ∧ (¬ ((gi x39 z49) ≠ r66) → ((I64 (z49 + (1 : Int))) ∧ (I50 r56 (z49 + (1 : Int)) ∧ μ51 r56 (z49 + (1 : Int)) < μ51 z48 z49))))))))) ∧ (¬ (z49 < ((vv0.length : Nat) : Int)) → (∃ (r76 : Int), V_Sum F28 vv0 (fun q => q = r76) ∧ ((r76 = z48) ∧ (∃ (r87 : Int), V_Dot F28 vv0 vv1 (fun q => q = r87) ∧ (∃ (r94 : Int), V_rDot Pf Mf mf vv0 vv1 (fun q => q = r94) ∧ ((r87 = r94) ∧ (∃ (r105 : Int), V_Dot F28 vv1 vv0 (fun q => q = r105) ∧ (∃ (r112 : Int), V_Dot F28 vv0 vv1 (fun q => q = r112) ∧ (Q (decide (r105 = r112))))))))))))))))))))))))
def V_FieldDigits (Pf : Int) (Mf : Int) (mf : List Int) (x : Int) (d : List Int) (Q : Bool → Prop) : Prop :=
  V_alive  (fun r14 => (((!r14) = true) → Q false) ∧ ((!r14) = false → (V_made Pf Mf mf (fun q => match q with | none => V_none Pf Mf mf (fun r26 => Q r26) | some F19 => V_Digits F19 x (fun x28 => V_FromDigits F19 x28 (fun q => match q with | (r33, r34) => V_rDigits Pf Mf mf x (fun x36 => V_lsame x28 x36 (fun r41 => (((!r41) = true) → Q false) ∧ ((!r41) = false → (((r34 ≠ (0 : Int)) → Q false) ∧ (¬ (r34 ≠ (0 : Int)) → (V_rIn Pf Mf mf x (fun r45 => ((r33 ≠ r45) → Q false) ∧ (¬ (r33 ≠ r45) → (V_FromDigits F19 d (fun q => match q with | (r48, r49) => ((((d.length : Nat) : Int) ≠ Mf) → (((r49 = (3 : Int)) → (Q (decide (r48 = (0 : Int))))) ∧ (¬ (r49 = (3 : Int)) → Q false))) ∧ (¬ (((d.length : Nat) : Int) ≠ Mf) → (∃ (I55 : Int → Prop) (μ56 : Int → Nat), I55 (0 : Int) ∧ ∀ (z54 : Int), (I55 z54 → (((z54 < ((d.length : Nat) : Int)) → ((0 ≤ z54 ∧ z54 < (d.length : Nat)) ∧ ((((gi d z54) < (0 : Int)) → (((r49 = (2 : Int)) → (Q (decide (r48 = (0 : Int))))) ∧ (¬ (r49 = (2 : Int)) → Q false))) ∧ (¬ ((gi d z54) < (0 : Int)) → (((Pf ≤ (gi d z54)) → (((r49 = (2 : Int)) → (Q (decide (r48 = (0 : Int))))) ∧ (¬ (r49 = (2 : Int)) → Q false))) ∧ (¬ (Pf ≤ (gi d z54)) → ((I64 (z54 + (1 : Int))) ∧ (I55 (z54 + (1 : Int)) ∧ μ56 (z54 + (1 : Int)) < μ56 z54)))))))) ∧ (¬ (z54 < ((d.length : Nat) : Int)) → (((r49 = (0 : Int)) → (V_rValue Pf Mf mf d (fun r67 => Q (decide (r48 = r67))))) ∧ (¬ (r49 = (0 : Int)) → Q false)))))))))))))))))))))))
def V_FieldOrders (Pf : Int) (Mf : Int) (mf : List Int) (x : Int) (Q : Bool → Prop) : Prop :=
  V_alive  (fun r14 => (((!r14) = true) → Q false) ∧ ((!r14) = false → (V_made Pf Mf mf (fun q => match q with | none => V_none Pf Mf mf (fun r26 => Q r26) | some F19 => V_MulOrder F19 x (fun q => match q with | (r28, r29) => V_rMulOrder Pf Mf mf x (fun r31 => ((r31 = (0 : Int)) → (((r29 = (7 : Int)) → (Q (decide (r28 = (0 : Int))))) ∧ (¬ (r29 = (7 : Int)) → Q false))) ∧ (¬ (r31 = (0 : Int)) → (((r29 = (0 : Int)) → (((r28 = r31) → (V_Order F19 (fun r37 => (I64 (r37 - (1 : Int))) ∧ ((r28 ≠ 0) ∧ (Q (decide (((r37 - (1 : Int)).tmod r28) = (0 : Int)))))))) ∧ (¬ (r28 = r31) → Q false))) ∧ (¬ (r29 = (0 : Int)) → Q false)))))))))
theorem ok_FieldOrders {w : World} {Q : Bool → Prop} {Pf : Int} {Mf : Int} {mf : List Int} {x : Int} {Bf : Nat} {Af : Option Addr} {nf kf : Nat} (hf : Rd Bf w 1 Af nf kf (is mf)) (hv : V_FieldOrders Pf Mf mf x Q) :
    Calls Try.prog 14 #[.agg #[.int .i64 Pf, .int .i64 Mf, .slice Af nf kf], .int .i64 x] w fun e w' => ∃ v Qr, e = .returned v ∧ w.grownBy w' none ∧ Rows w.heap.size none w' Qr ∧ News w.heap.size Qr ∧ ∃ (r0 : Bool), v = .bool r0 ∧ Qr = [] ∧ Q r0 := by
  have hnf := hf.ilen
  subst hnf
  refine calls_swap ?_
  refine calls_of_W (vs := [.agg #[.int .i64 Pf, .int .i64 Mf, .slice Af mf.length kf], .int .i64 x]) [4] Try.func14 rfl rfl rfl rfl ?_
  have hS := St.start w
  unfold V_FieldOrders at hv
  refine W.seq ?_
  refine W.region ?_
  refine SL.box (z := 3) (cs := [.int .i64 Pf, .int .i64 Mf, .slice Af mf.length kf]) hS rfl rfl rfl rfl ?_
  intro g11 w12 hS
  refine WL.assign rfl rfl ?_
  refine WL.done ?_
  refine W.seq ?_
  refine W.seq ?_
  refine W.region ?_
  refine SL.call hS (ok_alive  hv) Try.func17 rfl Try.nm17 rfl rfl ?_
  rintro _ _ w13 ⟨r14, rfl, rfl, hv⟩ hGw13 hS
  change St _ _ _ _ [.row 24 3 (some ⟨g11, 0, none⟩) 1 1 [.int .i64 Pf, .int .i64 Mf, .slice Af mf.length kf]] at hS
  refine WL.not rfl rfl ?_
  refine WL.done ?_
  refine W.cond2 rfl (fun c15 => ?_) (fun c15 => ?_)
  · have hv := hv.1 (c15)
    refine W.seq ?_
    refine W.region ?_
    refine WL.assign rfl rfl ?_
    refine WL.done ?_
    refine W.ret ?_
    refine ⟨_, rfl, Fin.nil ?_⟩
    exact ⟨_, hS.ext, (hS.pick [] rfl).rows, News.of (hS.pick [] rfl).rows rfl, ⟨false, rfl, rfl, hv⟩⟩
  · have hv := hv.2 (c15)
    refine W.skip ?_
    refine W.seq ?_
    refine W.region ?_
    refine WL.loadV (cs := [.int .i64 Pf, .int .i64 Mf, .slice Af mf.length kf]) Try.el24 Try.agg24 rfl rfl (Own.vcells (hS.own (i := 0) rfl)) rfl ?_
    refine SL.call hS (ok_made (hS.ro hf) hv) Try.func30 rfl Try.nm30 rfl rfl ?_
    rintro _ _ w17 ⟨o, hv, hK⟩ hGw17 hS
    cases o with
    | none =>
      obtain ⟨⟨pv24, rfl⟩, rfl⟩ := hK
      change St _ _ _ _ [.row 24 3 (some ⟨g11, 0, none⟩) 1 1 [.int .i64 Pf, .int .i64 Mf, .slice Af mf.length kf]] at hS
      refine WL.move rfl rfl ?_
      refine WL.extract rfl rfl rfl ?_
      refine WL.extract rfl rfl rfl ?_
      refine WL.assign rfl rfl ?_
      refine WL.assign rfl rfl ?_
      refine WL.done ?_
      refine W.seq ?_
      refine W.seq ?_
      refine W.region ?_
      refine WL.move rfl rfl ?_
      refine WL.not rfl rfl ?_
      refine WL.done ?_
      refine W.condT rfl ?_
      refine W.seq ?_
      refine W.region ?_
      refine WL.loadV (cs := [.int .i64 Pf, .int .i64 Mf, .slice Af mf.length kf]) Try.el24 Try.agg24 rfl rfl (Own.vcells (hS.own (i := 0) rfl)) rfl ?_
      refine SL.call hS (ok_none (hS.ro hf) hv) Try.func31 rfl Try.nm31 rfl rfl ?_
      rintro _ _ w25 ⟨r26, rfl, rfl, hv⟩ hGw25 hS
      change St _ _ _ _ [.row 24 3 (some ⟨g11, 0, none⟩) 1 1 [.int .i64 Pf, .int .i64 Mf, .slice Af mf.length kf]] at hS
      refine WL.assign rfl rfl ?_
      refine WL.done ?_
      refine W.ret ?_
      refine ⟨_, rfl, Fin.nil ?_⟩
      exact ⟨_, hS.ext, (hS.pick [] rfl).rows, News.of (hS.pick [] rfl).rows rfl, ⟨r26, rfl, rfl, hv⟩⟩
    | some F19 =>
      obtain ⟨ad20, lo21, hi22, rfl, rfl⟩ := hK
      change St _ _ _ _ [.ch lo21 hi22 (fun wz => GFX lo21 hi22 wz ad20 F19), .row 24 3 (some ⟨g11, 0, none⟩) 1 1 [.int .i64 Pf, .int .i64 Mf, .slice Af mf.length kf]] at hS
      refine WL.move rfl rfl ?_
      refine WL.extract rfl rfl rfl ?_
      refine WL.extract rfl rfl rfl ?_
      refine WL.assign rfl rfl ?_
      refine WL.assign rfl rfl ?_
      refine WL.done ?_
      refine W.seq ?_
      refine W.seq ?_
      refine W.region ?_
      refine WL.move rfl rfl ?_
      refine WL.not rfl rfl ?_
      refine WL.done ?_
      refine W.condF rfl ?_
      refine W.skip ?_
      refine W.seq ?_
      refine W.region ?_
      refine WL.move rfl rfl ?_
      refine WL.move rfl rfl ?_
      refine SL.call hS (ok_MulOrder (GFX.gfr (hS.chunk (i := 0) rfl)) hv) Try.func54 rfl Try.nm54 rfl rfl ?_
      rintro _ _ w27 ⟨r28, r29, rfl, rfl, hv⟩ hGw27 hS
      change St _ _ _ _ [.ch lo21 hi22 (fun wz => GFX lo21 hi22 wz ad20 F19), .row 24 3 (some ⟨g11, 0, none⟩) 1 1 [.int .i64 Pf, .int .i64 Mf, .slice Af mf.length kf]] at hS
      refine WL.move rfl rfl ?_
      refine WL.extract rfl rfl rfl ?_
      refine WL.extract rfl rfl rfl ?_
      refine WL.assign rfl rfl ?_
      refine WL.assign rfl rfl ?_
      refine WL.done ?_
      refine W.seq ?_
      refine W.region ?_
      refine WL.loadV (cs := [.int .i64 Pf, .int .i64 Mf, .slice Af mf.length kf]) Try.el24 Try.agg24 rfl rfl (Own.vcells (hS.own (i := 1) rfl)) rfl ?_
      refine WL.move rfl rfl ?_
      refine SL.call hS (ok_rMulOrder (hS.ro hf) hv) Try.func55 rfl Try.nm55 rfl rfl ?_
      rintro _ _ w30 ⟨r31, rfl, rfl, hv⟩ hGw30 hS
      change St _ _ _ _ [.ch lo21 hi22 (fun wz => GFX lo21 hi22 wz ad20 F19), .row 24 3 (some ⟨g11, 0, none⟩) 1 1 [.int .i64 Pf, .int .i64 Mf, .slice Af mf.length kf]] at hS
      refine WL.assign rfl rfl ?_
      refine WL.done ?_
      refine W.seq ?_
      refine W.seq ?_
      refine W.region ?_
      refine WL.move rfl rfl ?_
      refine WL.eqlD rfl rfl rfl ?_
      refine WL.done ?_
      refine W.cond2 rfl (fun c32 => ?_) (fun c32 => ?_)
      · have hv := hv.1 (of_decide_eq_true c32)
        refine W.seq ?_
        refine W.region ?_
        refine WL.move rfl rfl ?_
        refine WL.eqlD rfl rfl rfl ?_
        refine WL.move rfl rfl ?_
        by_cases g33 : r29 = (7 : Int)
        · have hv := hv.1 g33
          rw [decide_eq_true g33]
          refine WL.take rfl ?_
          refine WL.move rfl rfl ?_
          refine WL.take rfl ?_
          refine WL.eqlD rfl rfl rfl ?_
          refine WL.pick rfl rfl rfl ?_
          refine WL.assign rfl rfl ?_
          refine WL.done ?_
          refine W.ret ?_
          refine ⟨_, rfl, Fin.nil ?_⟩
          exact ⟨_, hS.ext, (hS.pick [] rfl).rows, News.of (hS.pick [] rfl).rows rfl, ⟨(decide (r28 = (0 : Int))), rfl, rfl, hv⟩⟩
        · have hv := hv.2 g33
          rw [decide_eq_false g33]
          refine WL.pass rfl rfl rfl ?_
          refine WL.pass rfl rfl rfl ?_
          refine WL.pick rfl rfl rfl ?_
          refine WL.assign rfl rfl ?_
          refine WL.done ?_
          refine W.ret ?_
          refine ⟨_, rfl, Fin.nil ?_⟩
          exact ⟨_, hS.ext, (hS.pick [] rfl).rows, News.of (hS.pick [] rfl).rows rfl, ⟨false, rfl, rfl, hv⟩⟩
      · have hv := hv.2 (of_decide_eq_false c32)
        refine W.skip ?_
        refine W.seq ?_
        refine W.region ?_
        refine WL.move rfl rfl ?_
        refine WL.eqlD rfl rfl rfl ?_
        refine WL.move rfl rfl ?_
        by_cases g34 : r29 = (0 : Int)
        · have hv := hv.1 g34
          rw [decide_eq_true g34]
          refine WL.take rfl ?_
          refine WL.move rfl rfl ?_
          refine WL.take rfl ?_
          refine WL.move rfl rfl ?_
          refine WL.take rfl ?_
          refine WL.eqlD rfl rfl rfl ?_
          refine WL.pick rfl rfl rfl ?_
          refine WL.move rfl rfl ?_
          by_cases g35 : r28 = r31
          · have hv := hv.1 g35
            rw [decide_eq_true g35]
            refine WL.take rfl ?_
            refine WL.move rfl rfl ?_
            refine WL.take rfl ?_
            refine SL.call hS (ok_Order (GFX.gfr (hS.chunk (i := 0) rfl)) hv) Try.func24 rfl Try.nm24 rfl rfl ?_
            rintro _ _ w36 ⟨r37, rfl, rfl, hv⟩ hGw36 hS
            change St _ _ _ _ [.ch lo21 hi22 (fun wz => GFX lo21 hi22 wz ad20 F19), .row 24 3 (some ⟨g11, 0, none⟩) 1 1 [.int .i64 Pf, .int .i64 Mf, .slice Af mf.length kf]] at hS
            refine WL.take rfl ?_
            obtain ⟨o38, hv⟩ := hv
            refine WL.sub (r := (r37 - (1 : Int))) rfl rfl (wr o38) rfl ?_
            refine WL.take rfl ?_
            refine WL.move rfl rfl ?_
            refine WL.take rfl ?_
            obtain ⟨o39, hv⟩ := hv
            refine WL.rem (r := ((r37 - (1 : Int)).tmod r28)) rfl rfl o39 rfl rfl ?_
            refine WL.take rfl ?_
            refine WL.eqlD rfl rfl rfl ?_
            refine WL.pick rfl rfl rfl ?_
            refine WL.assign rfl rfl ?_
            refine WL.done ?_
            refine W.ret ?_
            refine ⟨_, rfl, Fin.nil ?_⟩
            exact ⟨_, hS.ext, (hS.pick [] rfl).rows, News.of (hS.pick [] rfl).rows rfl, ⟨(decide (((r37 - (1 : Int)).tmod r28) = (0 : Int))), rfl, rfl, hv⟩⟩
          · have hv := hv.2 g35
            rw [decide_eq_false g35]
            refine WL.pass rfl rfl rfl ?_
            refine WL.pass rfl rfl rfl ?_
            refine WL.pass rfl rfl rfl ?_
            refine WL.pass rfl rfl rfl ?_
            refine WL.pass rfl rfl rfl ?_
            refine WL.pass rfl rfl rfl ?_
            refine WL.pick rfl rfl rfl ?_
            refine WL.assign rfl rfl ?_
            refine WL.done ?_
            refine W.ret ?_
            refine ⟨_, rfl, Fin.nil ?_⟩
            exact ⟨_, hS.ext, (hS.pick [] rfl).rows, News.of (hS.pick [] rfl).rows rfl, ⟨false, rfl, rfl, hv⟩⟩
        · have hv := hv.2 g34
          rw [decide_eq_false g34]
          refine WL.pass rfl rfl rfl ?_
          refine WL.pass rfl rfl rfl ?_
          refine WL.pass rfl rfl rfl ?_
          refine WL.pick rfl rfl rfl ?_
          refine WL.move rfl rfl ?_
          refine WL.pass rfl rfl rfl ?_
          refine WL.pass rfl rfl rfl ?_
          refine WL.pass rfl rfl rfl ?_
          refine WL.pass rfl rfl rfl ?_
          refine WL.pass rfl rfl rfl ?_
          refine WL.pass rfl rfl rfl ?_
          refine WL.pick rfl rfl rfl ?_
          refine WL.assign rfl rfl ?_
          refine WL.done ?_
          refine W.ret ?_
          refine ⟨_, rfl, Fin.nil ?_⟩
          exact ⟨_, hS.ext, (hS.pick [] rfl).rows, News.of (hS.pick [] rfl).rows rfl, ⟨false, rfl, rfl, hv⟩⟩

def V_FieldCounts (Pf : Int) (Mf : Int) (mf : List Int) (n : Int) (Q : Bool → Prop) : Prop :=
  V_alive  (fun r14 => (((!r14) = true) → Q false) ∧ ((!r14) = false → (V_made Pf Mf mf (fun q => match q with | none => V_none Pf Mf mf (fun r26 => Q r26) | some F19 => V_rOrder Pf Mf mf (fun r28 => ((n < (1 : Int)) → Q true) ∧ (¬ (n < (1 : Int)) → (((r28 < n) → Q true) ∧ (¬ (r28 < n) → (∃ (I40 : Int → Int → Int → Prop) (μ41 : Int → Int → Int → Nat), I40 (0 : Int) (0 : Int) (1 : Int) ∧ ∀ (z37 : Int) (z38 : Int) (z39 : Int), (I40 z37 z38 z39 → (((z39 < r28) → (∃ J49 : Int → Int → Int → Bool → Bool → Prop, (V_MulOrder F19 z39 (fun q => match q with | (r51, r52) => ∃ J54 : Int → Prop, (((r51 = n) → ((I64 (z37 + (1 : Int))) ∧ (J54 (z37 + (1 : Int))))) ∧ (¬ (r51 = n) → J54 z37)) ∧ ∀ (z53 : Int), (J54 z53 → ((I64 (r28 - (1 : Int))) ∧ (((r51 = (r28 - (1 : Int))) → ((I64 (z38 + (1 : Int))) ∧ (J49 z53 (z38 + (1 : Int)) r51 (decide (r51 = n)) (decide (r51 = (r28 - (1 : Int))))))) ∧ (¬ (r51 = (r28 - (1 : Int))) → (J49 z53 z38 r51 (decide (r51 = n)) (decide (r51 = (r28 - (1 : Int))))))))))) ∧ ∀ (z44 : Int) (z45 : Int) (z46 : Int) (b47 : Bool) (b48 : Bool), (J49 z44 z45 z46 b47 b48 → ((I64 (z39 + (1 : Int))) ∧ (I40 z44 z45 (z39 + (1 : Int)) ∧ μ41 z44 z45 (z39 + (1 : Int)) < μ41 z37 z38 z39))))) ∧ (¬ (z39 < r28) → ((I64 (r28 - (1 : Int))) ∧ ((n ≠ 0) ∧ (((((r28 - (1 : Int)).tmod n) ≠ (0 : Int)) → (((z37 = (0 : Int)) → (Q (decide ((0 : Int) < z38)))) ∧ (¬ (z37 = (0 : Int)) → Q false))) ∧ (¬ (((r28 - (1 : Int)).tmod n) ≠ (0 : Int)) → (V_coprime n (fun r70 => ((z37 = r70) → (Q (decide ((0 : Int) < z38)))) ∧ (¬ (z37 = r70) → Q false)))))))))))))))))))
def V_FieldElements (Pf : Int) (Mf : Int) (mf : List Int) (x : Int) (Q : Bool → Prop) : Prop :=
  V_alive  (fun r18 => (((!r18) = true) → Q false) ∧ ((!r18) = false → (V_made Pf Mf mf (fun q => match q with | none => V_none Pf Mf mf (fun r31 => Q r31) | some F24 => V_elements F24 (fun _ => I64 F24.q ∧ ∃ (I42 : Nat → Int → Prop) (J43 : Int → Prop) (J44 : Int → Prop), I42 0 (0 : Int) ∧ (∀ i38 : Nat, i38 < F24.q.toNat → ∀ (z41 : Int), I42 i38 z41 → ((((i38 : Int) ≠ z41) → J44 z41) ∧ (¬ ((i38 : Int) ≠ z41) → ((I64 (z41 + (1 : Int))) ∧ ((((z41 + (1 : Int)) = x) → (J43 (z41 + (1 : Int)))) ∧ (¬ ((z41 + (1 : Int)) = x) → (I42 (i38 + 1) (z41 + (1 : Int))))))))) ∧ (∀ (z41 : Int), I42 F24.q.toNat z41 → (V_rOrder Pf Mf mf (fun r54 => ((x < (1 : Int)) → (Q (decide (z41 = r54)))) ∧ (¬ (x < (1 : Int)) → (((r54 < x) → (Q (decide (z41 = r54)))) ∧ (¬ (r54 < x) → (Q (decide (z41 = x))))))))) ∧ (∀ (z41 : Int), J43 z41 → (V_rOrder Pf Mf mf (fun r62 => ((x < (1 : Int)) → (Q (decide (z41 = r62)))) ∧ (¬ (x < (1 : Int)) → (((r62 < x) → (Q (decide (z41 = r62)))) ∧ (¬ (r62 < x) → (Q (decide (z41 = x))))))))) ∧ (∀ (z41 : Int), J44 z41 → Q false))))))
theorem ok_FieldElements {w : World} {Q : Bool → Prop} {Pf : Int} {Mf : Int} {mf : List Int} {x : Int} {Bf : Nat} {Af : Option Addr} {nf kf : Nat} (hf : Rd Bf w 1 Af nf kf (is mf)) (hv : V_FieldElements Pf Mf mf x Q) :
    Calls Try.prog 16 #[.agg #[.int .i64 Pf, .int .i64 Mf, .slice Af nf kf], .int .i64 x] w fun e w' => ∃ v Qr, e = .returned v ∧ w.grownBy w' none ∧ Rows w.heap.size none w' Qr ∧ News w.heap.size Qr ∧ ∃ (r0 : Bool), v = .bool r0 ∧ Qr = [] ∧ Q r0 := by
  have hnf := hf.ilen
  subst hnf
  refine calls_swap ?_
  refine calls_of_Wc (vs := [.agg #[.int .i64 Pf, .int .i64 Mf, .slice Af mf.length kf], .int .i64 x]) [.cell 4 4] Try.func16 rfl rfl rfl rfl ?_
  have hS := St.start w
  unfold V_FieldElements at hv
  refine W.seq ?_
  refine W.region ?_
  refine SL.box (z := 3) (cs := [.int .i64 Pf, .int .i64 Mf, .slice Af mf.length kf]) hS rfl rfl rfl rfl ?_
  intro g11 w12 hS
  refine SL.box (z := 1) (cs := [.int .i64 x]) hS rfl rfl rfl rfl ?_
  intro g13 w14 hS
  refine SL.alloc (cs := [.bool false]) hS Try.el4 rfl rfl ?_
  intro g15 w16 hS
  refine WL.done ?_
  refine W.seq ?_
  refine W.seq ?_
  refine W.region ?_
  refine SL.call hS (ok_alive  hv) Try.func17 rfl Try.nm17 rfl rfl ?_
  rintro _ _ w17 ⟨r18, rfl, rfl, hv⟩ hGw17 hS
  change St _ _ _ _ [.row 4 1 (some ⟨g15, 0, none⟩) 1 1 [.bool false], .row 3 1 (some ⟨g13, 0, none⟩) 1 1 [.int .i64 x], .row 24 3 (some ⟨g11, 0, none⟩) 1 1 [.int .i64 Pf, .int .i64 Mf, .slice Af mf.length kf]] at hS
  refine WL.not rfl rfl ?_
  refine WL.done ?_
  refine W.cond2 rfl (fun c19 => ?_) (fun c19 => ?_)
  · have hv := hv.1 (c19)
    refine W.seq ?_
    refine W.region ?_
    refine SL.store (cs' := [.bool false]) 0 0 hS rfl Try.el4 rfl rfl rfl (of_ble rfl) rfl ?_
    intro w20 hS
    refine WL.done ?_
    refine W.ret ?_
    repeat with_reducible first | refine blk.ret ?_ | refine exits.retI ?_
    refine endC.mk ⟨[.bool false], ⟨_, _, _, rfl, rfl, run_load1 Try.underlying4 rfl (Own.vcells (hS.own (i := 0) rfl) 0 _ rfl), rfl⟩, ?_⟩
    exact ⟨_, hS.ext, (hS.pick [] rfl).rows, News.of (hS.pick [] rfl).rows rfl, ⟨false, rfl, rfl, hv⟩⟩
  · have hv := hv.2 (c19)
    refine W.skip ?_
    refine W.seq ?_
    refine W.region ?_
    refine WL.loadV (cs := [.int .i64 Pf, .int .i64 Mf, .slice Af mf.length kf]) Try.el24 Try.agg24 rfl rfl (Own.vcells (hS.own (i := 2) rfl)) rfl ?_
    refine SL.call hS (ok_made (hS.ro hf) hv) Try.func30 rfl Try.nm30 rfl rfl ?_
    rintro _ _ w22 ⟨o, hv, hK⟩ hGw22 hS
    cases o with
    | none =>
      obtain ⟨⟨pv29, rfl⟩, rfl⟩ := hK
      change St _ _ _ _ [.row 4 1 (some ⟨g15, 0, none⟩) 1 1 [.bool false], .row 3 1 (some ⟨g13, 0, none⟩) 1 1 [.int .i64 x], .row 24 3 (some ⟨g11, 0, none⟩) 1 1 [.int .i64 Pf, .int .i64 Mf, .slice Af mf.length kf]] at hS
      refine WL.move rfl rfl ?_
      refine WL.extract rfl rfl rfl ?_
      refine WL.extract rfl rfl rfl ?_
      refine WL.assign rfl rfl ?_
      refine WL.assign rfl rfl ?_
      refine WL.done ?_
      refine W.seq ?_
      refine W.seq ?_
      refine W.region ?_
      refine WL.move rfl rfl ?_
      refine WL.not rfl rfl ?_
      refine WL.done ?_
      refine W.condT rfl ?_
      refine W.seq ?_
      refine W.region ?_
      refine WL.loadV (cs := [.int .i64 Pf, .int .i64 Mf, .slice Af mf.length kf]) Try.el24 Try.agg24 rfl rfl (Own.vcells (hS.own (i := 2) rfl)) rfl ?_
      refine SL.call hS (ok_none (hS.ro hf) hv) Try.func31 rfl Try.nm31 rfl rfl ?_
      rintro _ _ w30 ⟨r31, rfl, rfl, hv⟩ hGw30 hS
      change St _ _ _ _ [.row 4 1 (some ⟨g15, 0, none⟩) 1 1 [.bool false], .row 3 1 (some ⟨g13, 0, none⟩) 1 1 [.int .i64 x], .row 24 3 (some ⟨g11, 0, none⟩) 1 1 [.int .i64 Pf, .int .i64 Mf, .slice Af mf.length kf]] at hS
      refine SL.store (cs' := [.bool r31]) 0 0 hS rfl Try.el4 rfl rfl rfl (of_ble rfl) rfl ?_
      intro w32 hS
      refine WL.done ?_
      refine W.ret ?_
      repeat with_reducible first | refine blk.ret ?_ | refine exits.retI ?_
      refine endC.mk ⟨[.bool r31], ⟨_, _, _, rfl, rfl, run_load1 Try.underlying4 rfl (Own.vcells (hS.own (i := 0) rfl) 0 _ rfl), rfl⟩, ?_⟩
      exact ⟨_, hS.ext, (hS.pick [] rfl).rows, News.of (hS.pick [] rfl).rows rfl, ⟨r31, rfl, rfl, hv⟩⟩
    | some F24 =>
      obtain ⟨ad25, lo26, hi27, rfl, rfl⟩ := hK
      change St _ _ _ _ [.ch lo26 hi27 (fun wz => GFX lo26 hi27 wz ad25 F24), .row 4 1 (some ⟨g15, 0, none⟩) 1 1 [.bool false], .row 3 1 (some ⟨g13, 0, none⟩) 1 1 [.int .i64 x], .row 24 3 (some ⟨g11, 0, none⟩) 1 1 [.int .i64 Pf, .int .i64 Mf, .slice Af mf.length kf]] at hS
      refine WL.move rfl rfl ?_
      refine WL.extract rfl rfl rfl ?_
      refine WL.extract rfl rfl rfl ?_
      refine WL.assign rfl rfl ?_
      refine WL.assign rfl rfl ?_
      refine WL.done ?_
      refine W.seq ?_
      refine W.seq ?_
      refine W.region ?_
      refine WL.move rfl rfl ?_
      refine WL.not rfl rfl ?_
      refine WL.done ?_
      refine W.condF rfl ?_
      refine W.skip ?_
      refine W.seq ?_
      refine W.region ?_
      refine WL.move rfl rfl ?_
      refine SL.call hS (ok_elements (GFX.gfr (hS.chunk (i := 0) rfl)) hv) Try.func57 rfl Try.nm57 rfl rfl ?_
      rintro _ _ w33 ⟨g34, rfl, rfl, hv⟩ hGw33 hS
      change St _ _ _ _ [.row 28 1 (some ⟨g34, 0, none⟩) 1 1 [.pointer (some ad25)], .ch lo26 hi27 (fun wz => GFX lo26 hi27 wz ad25 F24), .row 4 1 (some ⟨g15, 0, none⟩) 1 1 [.bool false], .row 3 1 (some ⟨g13, 0, none⟩) 1 1 [.int .i64 x], .row 24 3 (some ⟨g11, 0, none⟩) 1 1 [.int .i64 Pf, .int .i64 Mf, .slice Af mf.length kf]] at hS
      refine WL.assign rfl rfl ?_
      refine WL.done ?_
      refine W.seq ?_
      refine W.seq ?_
      refine W.region ?_
      refine WL.move rfl rfl ?_
      refine WL.eqlFn Try.underlying68 rfl rfl rfl ?_
      refine WL.done ?_
      refine W.condF rfl ?_
      refine W.skip ?_
      refine W.seq ?_
      refine W.region ?_
      refine SL.alloc (cs := [.int .i64 (0 : Int)]) hS Try.el3 rfl rfl ?_
      intro g35 w36 hS
      refine SL.store (cs' := [.int .i64 (0 : Int)]) 0 0 hS rfl Try.el3 rfl rfl rfl (of_ble rfl) rfl ?_
      intro w37 hS
      refine WL.done ?_
      refine W.seq ?_
      refine W.seq ?_
      refine W.region ?_
      refine WL.move rfl rfl ?_
      refine WL.done ?_
      refine W.block ?_
      obtain ⟨o73, hv⟩ := hv
      obtain ⟨I42, J43, J44, hv, hk69, hd70, hx71, hx72⟩ := hv
      change St _ _ _ _ [.row 3 1 (some ⟨g35, 0, none⟩) 1 1 [.int .i64 (0 : Int)], .row 28 1 (some ⟨g34, 0, none⟩) 1 1 [.pointer (some ad25)], .ch lo26 hi27 (fun wz => GFX lo26 hi27 wz ad25 F24), .row 4 1 (some ⟨g15, 0, none⟩) 1 1 [.bool false], .row 3 1 (some ⟨g13, 0, none⟩) 1 1 [.int .i64 x], .row 24 3 (some ⟨g11, 0, none⟩) 1 1 [.int .i64 Pf, .int .i64 Mf, .slice Af mf.length kf]] at hS
      refine SR.range (σ := Int) (fun i q => match q with | z41 => I42 i z41) (fun z41 => [.row 3 1 (some ⟨g35, 0, none⟩) 1 1 [.int .i64 z41], .row 28 1 (some ⟨g34, 0, none⟩) 1 1 [.pointer (some ad25)], .ch lo26 hi27 (fun wz => GFX lo26 hi27 wz ad25 F24), .row 4 1 (some ⟨g15, 0, none⟩) 1 1 [.bool false], .row 3 1 (some ⟨g13, 0, none⟩) 1 1 [.int .i64 x], .row 24 3 (some ⟨g11, 0, none⟩) 1 1 [.int .i64 Pf, .int .i64 Mf, .slice Af mf.length kf]]) (fun e q => match e, q with | .ret, z41 => J44 z41 | .exit 0, z41 => J43 z41 | _, _ => False) (fun vs => [(2, .pointer (some ⟨g11, 0, none⟩)), (3, .pointer (some ⟨g13, 0, none⟩)), (4, .pointer (some ⟨g15, 0, none⟩)), (8, .pointer (some ⟨g35, 0, none⟩)), (9, vs.getD 0 undef)]) (0 : Int) hS hv (fun q => by obtain z41 := q; exact ⟨hS.hi (i := 2) rfl, trivial⟩) rfl Try.func79 rfl Try.nm79 (elements_seq o73 (Own.vcells (hS.own (i := 1) rfl) 0 _ rfl) (GFR.qcell (GFX.gfr (hS.chunk (i := 2) rfl)))) (Below.refl _ _) (fun _ _ _ h => by rw [h]; rfl) (fun _ _ _ _ _ h _ _ => h) (by decide) (fun _ _ _ _ _ => trivial) ?_ ?_ ?_ ?_
      · intro lq vsq W1q hlq
        match vsq, hlq with
        | [a0], _ =>
          refine W.region ?_
          refine WL.assign rfl rfl ?_
          refine WL.done ?_
          exact ⟨rfl, rfl, ⟨rfl, rfl, rfl, rfl, rfl, trivial⟩⟩
      · rintro lq i38 _ z41 w45 hi rfl hI hS
        have hv := hk69 i38 hi z41 hI
        refine W.block ?_
        refine W.seq ?_
        refine W.seq ?_
        refine W.region ?_
        refine WL.move rfl rfl ?_
        refine WL.load Try.underlying3 rfl rfl (Own.vcells (hS.own (i := 0) rfl) 0 _ rfl) rfl ?_
        refine WL.neqD rfl rfl rfl ?_
        refine WL.done ?_
        refine W.cond2 rfl (fun c46 => ?_) (fun c46 => ?_)
        · have hv := hv.1 (of_decide_eq_true c46)
          refine W.seq ?_
          refine W.region ?_
          refine SL.store (cs' := [.bool false]) 3 0 hS rfl Try.el4 rfl rfl rfl (of_ble rfl) rfl ?_
          intro w47 hS
          refine WL.done ?_
          refine W.ret ?_
          change St _ _ _ _ [.row 3 1 (some ⟨g35, 0, none⟩) 1 1 [.int .i64 z41], .row 28 1 (some ⟨g34, 0, none⟩) 1 1 [.pointer (some ad25)], .ch lo26 hi27 (fun wz => GFX lo26 hi27 wz ad25 F24), .row 4 1 (some ⟨g15, 0, none⟩) 1 1 [.bool false], .row 3 1 (some ⟨g13, 0, none⟩) 1 1 [.int .i64 x], .row 24 3 (some ⟨g11, 0, none⟩) 1 1 [.int .i64 Pf, .int .i64 Mf, .slice Af mf.length kf]] at hS
          exact ⟨z41, rfl, hv, hS⟩
        · have hv := hv.2 (of_decide_eq_false c46)
          refine W.skip ?_
          refine W.seq ?_
          refine W.region ?_
          refine WL.load Try.underlying3 rfl rfl (Own.vcells (hS.own (i := 0) rfl) 0 _ rfl) rfl ?_
          obtain ⟨o48, hv⟩ := hv
          refine WL.add (r := (z41 + (1 : Int))) rfl rfl (wr o48) rfl ?_
          refine SL.store (cs' := [.int .i64 (z41 + (1 : Int))]) 0 0 hS rfl Try.el3 rfl rfl rfl (of_ble rfl) rfl ?_
          intro w49 hS
          refine WL.done ?_
          refine W.seq ?_
          refine W.region ?_
          refine WL.load Try.underlying3 rfl rfl (Own.vcells (hS.own (i := 0) rfl) 0 _ rfl) rfl ?_
          refine WL.load Try.underlying3 rfl rfl (Own.vcells (hS.own (i := 4) rfl) 0 _ rfl) rfl ?_
          refine WL.eqlD rfl rfl rfl ?_
          refine WL.done ?_
          refine W.cond2 rfl (fun c50 => ?_) (fun c50 => ?_)
          · have hv := hv.1 (of_decide_eq_true c50)
            refine W.exit ?_
            change St _ _ _ _ [.row 3 1 (some ⟨g35, 0, none⟩) 1 1 [.int .i64 (z41 + (1 : Int))], .row 28 1 (some ⟨g34, 0, none⟩) 1 1 [.pointer (some ad25)], .ch lo26 hi27 (fun wz => GFX lo26 hi27 wz ad25 F24), .row 4 1 (some ⟨g15, 0, none⟩) 1 1 [.bool false], .row 3 1 (some ⟨g13, 0, none⟩) 1 1 [.int .i64 x], .row 24 3 (some ⟨g11, 0, none⟩) 1 1 [.int .i64 Pf, .int .i64 Mf, .slice Af mf.length kf]] at hS
            exact ⟨(z41 + (1 : Int)), rfl, hv, hS⟩
          · have hv := hv.2 (of_decide_eq_false c50)
            refine W.skip ?_
            change St _ _ _ _ [.row 3 1 (some ⟨g35, 0, none⟩) 1 1 [.int .i64 (z41 + (1 : Int))], .row 28 1 (some ⟨g34, 0, none⟩) 1 1 [.pointer (some ad25)], .ch lo26 hi27 (fun wz => GFX lo26 hi27 wz ad25 F24), .row 4 1 (some ⟨g15, 0, none⟩) 1 1 [.bool false], .row 3 1 (some ⟨g13, 0, none⟩) 1 1 [.int .i64 x], .row 24 3 (some ⟨g11, 0, none⟩) 1 1 [.int .i64 Pf, .int .i64 Mf, .slice Af mf.length kf]] at hS
            exact ⟨(z41 + (1 : Int)), hv, hS⟩
      · rintro D51 z41 w52 hv hD hS
        have hv := hd70 z41 hv
        refine W.seq ?_
        refine W.region ?_
        refine WL.loadV (cs := [.int .i64 Pf, .int .i64 Mf, .slice Af mf.length kf]) Try.el24 Try.agg24 rfl rfl (Own.vcells (hS.own (i := 6) rfl)) rfl ?_
        refine SL.call hS (ok_rOrder (hS.ro hf) hv) Try.func25 rfl Try.nm25 rfl rfl ?_
        rintro _ _ w53 ⟨r54, rfl, rfl, hv⟩ hGw53 hS
        change St _ _ _ _ [.ch D51 (D51 + 1) (Mrk D51), .row 3 1 (some ⟨g35, 0, none⟩) 1 1 [.int .i64 z41], .row 28 1 (some ⟨g34, 0, none⟩) 1 1 [.pointer (some ad25)], .ch lo26 hi27 (fun wz => GFX lo26 hi27 wz ad25 F24), .row 4 1 (some ⟨g15, 0, none⟩) 1 1 [.bool false], .row 3 1 (some ⟨g13, 0, none⟩) 1 1 [.int .i64 x], .row 24 3 (some ⟨g11, 0, none⟩) 1 1 [.int .i64 Pf, .int .i64 Mf, .slice Af mf.length kf]] at hS
        refine WL.assign rfl rfl ?_
        refine WL.done ?_
        refine W.seq ?_
        refine W.seq ?_
        refine W.region ?_
        refine WL.load Try.underlying3 rfl rfl (Own.vcells (hS.own (i := 5) rfl) 0 _ rfl) rfl ?_
        refine WL.lssD rfl rfl rfl ?_
        refine WL.move rfl rfl ?_
        by_cases g55 : x < (1 : Int)
        · have hv := hv.1 g55
          rw [decide_eq_true g55]
          refine WL.pass rfl rfl rfl ?_
          refine WL.pass rfl rfl rfl ?_
          refine WL.pass rfl rfl rfl ?_
          refine WL.pick rfl rfl rfl ?_
          refine WL.done ?_
          refine W.condT rfl ?_
          refine W.seq ?_
          refine W.region ?_
          refine WL.load Try.underlying3 rfl rfl (Own.vcells (hS.own (i := 1) rfl) 0 _ rfl) rfl ?_
          refine WL.move rfl rfl ?_
          refine WL.eqlD rfl rfl rfl ?_
          refine SL.store (cs' := [.bool (decide (z41 = r54))]) 4 0 hS rfl Try.el4 rfl rfl rfl (of_ble rfl) rfl ?_
          intro w56 hS
          refine WL.done ?_
          refine W.ret ?_
          have hS := hS.pick [0, 4] rfl
          obtain ⟨hDD51, hS⟩ := hS.taken trivial
          repeat with_reducible first | refine blk.ret ?_ | refine exits.retI ?_
          refine endC.mk1 hDD51 ⟨[.bool (decide (z41 = r54))], ⟨_, _, _, rfl, rfl, run_load1 Try.underlying4 rfl (Own.vcells (hS.own (i := 0) rfl) 0 _ rfl), rfl⟩, ?_⟩
          exact ⟨_, hS.ext, (hS.pick [] rfl).rows, News.of (hS.pick [] rfl).rows rfl, ⟨(decide (z41 = r54)), rfl, rfl, hv⟩⟩
        · have hv := hv.2 g55
          rw [decide_eq_false g55]
          refine WL.take rfl ?_
          refine WL.load Try.underlying3 rfl rfl (Own.vcells (hS.own (i := 5) rfl) 0 _ rfl) rfl ?_
          refine WL.take rfl ?_
          refine WL.move rfl rfl ?_
          refine WL.take rfl ?_
          refine WL.gtrD rfl rfl rfl ?_
          refine WL.pick rfl rfl rfl ?_
          refine WL.done ?_
          refine W.cond2 rfl (fun c57 => ?_) (fun c57 => ?_)
          · have hv := hv.1 (of_decide_eq_true c57)
            refine W.seq ?_
            refine W.region ?_
            refine WL.load Try.underlying3 rfl rfl (Own.vcells (hS.own (i := 1) rfl) 0 _ rfl) rfl ?_
            refine WL.move rfl rfl ?_
            refine WL.eqlD rfl rfl rfl ?_
            refine SL.store (cs' := [.bool (decide (z41 = r54))]) 4 0 hS rfl Try.el4 rfl rfl rfl (of_ble rfl) rfl ?_
            intro w58 hS
            refine WL.done ?_
            refine W.ret ?_
            have hS := hS.pick [0, 4] rfl
            obtain ⟨hDD51, hS⟩ := hS.taken trivial
            repeat with_reducible first | refine blk.ret ?_ | refine exits.retI ?_
            refine endC.mk1 hDD51 ⟨[.bool (decide (z41 = r54))], ⟨_, _, _, rfl, rfl, run_load1 Try.underlying4 rfl (Own.vcells (hS.own (i := 0) rfl) 0 _ rfl), rfl⟩, ?_⟩
            exact ⟨_, hS.ext, (hS.pick [] rfl).rows, News.of (hS.pick [] rfl).rows rfl, ⟨(decide (z41 = r54)), rfl, rfl, hv⟩⟩
          · have hv := hv.2 (of_decide_eq_false c57)
            refine W.skip ?_
            refine W.seq ?_
            refine W.region ?_
            refine WL.load Try.underlying3 rfl rfl (Own.vcells (hS.own (i := 1) rfl) 0 _ rfl) rfl ?_
            refine WL.load Try.underlying3 rfl rfl (Own.vcells (hS.own (i := 5) rfl) 0 _ rfl) rfl ?_
            refine WL.eqlD rfl rfl rfl ?_
            refine SL.store (cs' := [.bool (decide (z41 = x))]) 4 0 hS rfl Try.el4 rfl rfl rfl (of_ble rfl) rfl ?_
            intro w59 hS
            refine WL.done ?_
            refine W.ret ?_
            have hS := hS.pick [0, 4] rfl
            obtain ⟨hDD51, hS⟩ := hS.taken trivial
            repeat with_reducible first | refine blk.ret ?_ | refine exits.retI ?_
            refine endC.mk1 hDD51 ⟨[.bool (decide (z41 = x))], ⟨_, _, _, rfl, rfl, run_load1 Try.underlying4 rfl (Own.vcells (hS.own (i := 0) rfl) 0 _ rfl), rfl⟩, ?_⟩
            exact ⟨_, hS.ext, (hS.pick [] rfl).rows, News.of (hS.pick [] rfl).rows rfl, ⟨(decide (z41 = x)), rfl, rfl, hv⟩⟩
      · rintro D51 e z41 w52 he hv hD hS
        cases e with
        | ret =>
          have hv := hx72 z41 hv
          have hS := hS.pick [0, 4] rfl
          obtain ⟨hDD51, hS⟩ := hS.taken trivial
          repeat with_reducible first | refine blk.ret ?_ | refine exits.retI ?_
          refine endC.mk1 hDD51 ⟨[.bool false], ⟨_, _, _, rfl, rfl, run_load1 Try.underlying4 rfl (Own.vcells (hS.own (i := 0) rfl) 0 _ rfl), rfl⟩, ?_⟩
          exact ⟨_, hS.ext, (hS.pick [] rfl).rows, News.of (hS.pick [] rfl).rows rfl, ⟨false, rfl, rfl, hv⟩⟩
        | exit id =>
          by_cases hid : id = 0
          · subst hid
            have hv := hx71 z41 hv
            refine W.seq ?_
            refine W.region ?_
            refine WL.loadV (cs := [.int .i64 Pf, .int .i64 Mf, .slice Af mf.length kf]) Try.el24 Try.agg24 rfl rfl (Own.vcells (hS.own (i := 6) rfl)) rfl ?_
            refine SL.call hS (ok_rOrder (hS.ro hf) hv) Try.func25 rfl Try.nm25 rfl rfl ?_
            rintro _ _ w61 ⟨r62, rfl, rfl, hv⟩ hGw61 hS
            change St _ _ _ _ [.ch D51 (D51 + 1) (Mrk D51), .row 3 1 (some ⟨g35, 0, none⟩) 1 1 [.int .i64 z41], .row 28 1 (some ⟨g34, 0, none⟩) 1 1 [.pointer (some ad25)], .ch lo26 hi27 (fun wz => GFX lo26 hi27 wz ad25 F24), .row 4 1 (some ⟨g15, 0, none⟩) 1 1 [.bool false], .row 3 1 (some ⟨g13, 0, none⟩) 1 1 [.int .i64 x], .row 24 3 (some ⟨g11, 0, none⟩) 1 1 [.int .i64 Pf, .int .i64 Mf, .slice Af mf.length kf]] at hS
            refine WL.assign rfl rfl ?_
            refine WL.done ?_
            refine W.seq ?_
            refine W.seq ?_
            refine W.region ?_
            refine WL.load Try.underlying3 rfl rfl (Own.vcells (hS.own (i := 5) rfl) 0 _ rfl) rfl ?_
            refine WL.lssD rfl rfl rfl ?_
            refine WL.move rfl rfl ?_
            by_cases g63 : x < (1 : Int)
            · have hv := hv.1 g63
              rw [decide_eq_true g63]
              refine WL.pass rfl rfl rfl ?_
              refine WL.pass rfl rfl rfl ?_
              refine WL.pass rfl rfl rfl ?_
              refine WL.pick rfl rfl rfl ?_
              refine WL.done ?_
              refine W.condT rfl ?_
              refine W.seq ?_
              refine W.region ?_
              refine WL.load Try.underlying3 rfl rfl (Own.vcells (hS.own (i := 1) rfl) 0 _ rfl) rfl ?_
              refine WL.move rfl rfl ?_
              refine WL.eqlD rfl rfl rfl ?_
              refine SL.store (cs' := [.bool (decide (z41 = r62))]) 4 0 hS rfl Try.el4 rfl rfl rfl (of_ble rfl) rfl ?_
              intro w64 hS
              refine WL.done ?_
              refine W.ret ?_
              have hS := hS.pick [0, 4] rfl
              obtain ⟨hDD51, hS⟩ := hS.taken trivial
              repeat with_reducible first | refine blk.ret ?_ | refine exits.retI ?_
              refine endC.mk1 hDD51 ⟨[.bool (decide (z41 = r62))], ⟨_, _, _, rfl, rfl, run_load1 Try.underlying4 rfl (Own.vcells (hS.own (i := 0) rfl) 0 _ rfl), rfl⟩, ?_⟩
              exact ⟨_, hS.ext, (hS.pick [] rfl).rows, News.of (hS.pick [] rfl).rows rfl, ⟨(decide (z41 = r62)), rfl, rfl, hv⟩⟩
            · have hv := hv.2 g63
              rw [decide_eq_false g63]
              refine WL.take rfl ?_
              refine WL.load Try.underlying3 rfl rfl (Own.vcells (hS.own (i := 5) rfl) 0 _ rfl) rfl ?_
              refine WL.take rfl ?_
              refine WL.move rfl rfl ?_
              refine WL.take rfl ?_
              refine WL.gtrD rfl rfl rfl ?_
              refine WL.pick rfl rfl rfl ?_
              refine WL.done ?_
              refine W.cond2 rfl (fun c65 => ?_) (fun c65 => ?_)
              · have hv := hv.1 (of_decide_eq_true c65)
                refine W.seq ?_
                refine W.region ?_
                refine WL.load Try.underlying3 rfl rfl (Own.vcells (hS.own (i := 1) rfl) 0 _ rfl) rfl ?_
                refine WL.move rfl rfl ?_
                refine WL.eqlD rfl rfl rfl ?_
                refine SL.store (cs' := [.bool (decide (z41 = r62))]) 4 0 hS rfl Try.el4 rfl rfl rfl (of_ble rfl) rfl ?_
                intro w66 hS
                refine WL.done ?_
                refine W.ret ?_
                have hS := hS.pick [0, 4] rfl
                obtain ⟨hDD51, hS⟩ := hS.taken trivial
                repeat with_reducible first | refine blk.ret ?_ | refine exits.retI ?_
                refine endC.mk1 hDD51 ⟨[.bool (decide (z41 = r62))], ⟨_, _, _, rfl, rfl, run_load1 Try.underlying4 rfl (Own.vcells (hS.own (i := 0) rfl) 0 _ rfl), rfl⟩, ?_⟩
                exact ⟨_, hS.ext, (hS.pick [] rfl).rows, News.of (hS.pick [] rfl).rows rfl, ⟨(decide (z41 = r62)), rfl, rfl, hv⟩⟩
              · have hv := hv.2 (of_decide_eq_false c65)
                refine W.skip ?_
                refine W.seq ?_
                refine W.region ?_
                refine WL.load Try.underlying3 rfl rfl (Own.vcells (hS.own (i := 1) rfl) 0 _ rfl) rfl ?_
                refine WL.load Try.underlying3 rfl rfl (Own.vcells (hS.own (i := 5) rfl) 0 _ rfl) rfl ?_
                refine WL.eqlD rfl rfl rfl ?_
                refine SL.store (cs' := [.bool (decide (z41 = x))]) 4 0 hS rfl Try.el4 rfl rfl rfl (of_ble rfl) rfl ?_
                intro w67 hS
                refine WL.done ?_
                refine W.ret ?_
                have hS := hS.pick [0, 4] rfl
                obtain ⟨hDD51, hS⟩ := hS.taken trivial
                repeat with_reducible first | refine blk.ret ?_ | refine exits.retI ?_
                refine endC.mk1 hDD51 ⟨[.bool (decide (z41 = x))], ⟨_, _, _, rfl, rfl, run_load1 Try.underlying4 rfl (Own.vcells (hS.own (i := 0) rfl) 0 _ rfl), rfl⟩, ?_⟩
                exact ⟨_, hS.ext, (hS.pick [] rfl).rows, News.of (hS.pick [] rfl).rows rfl, ⟨(decide (z41 = x)), rfl, rfl, hv⟩⟩
          · exact absurd hv (by simp [hid])
        | _ => simp [plainExit] at he
end Go.Proofs.Ytinibbfpdbddpaa
