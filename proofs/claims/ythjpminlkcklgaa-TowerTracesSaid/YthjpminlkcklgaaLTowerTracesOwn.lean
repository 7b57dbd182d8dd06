/- What only this law leans on. -/
import Derived.Test.YthjpminlkcklgaaTowerFrobeniusG9
set_option linter.unusedVariables false
namespace Go.Proofs.Ythjpminlkcklgaa
open Go.RowKit
theorem Try.nm47 : (Try.f47.name == "runtime.NumGoroutine") = false := by kernel_rfl
end Go.Proofs.Ythjpminlkcklgaa
set_option linter.unusedSimpArgs false
set_option linter.unusedVariables false
namespace Go.Proofs.Ythjpminlkcklgaa
open Go.RowKit
def V_rtrace (Pf : Int) (Mf : Int) (mf : List Int) (x : Int) (d : Int) (Q : Int → Prop) : Prop :=
  ∃ (I19 : Int → Int → Prop) (μ20 : Int → Int → Nat), I19 (0 : Int) (0 : Int) ∧ ∀ (z17 : Int) (z18 : Int), (I19 z17 z18 → ((d ≠ 0 ∧ I64 (Mf.tdiv d)) ∧ (((z18 < (Mf.tdiv d)) → ((I64 (d * z18)) ∧ (∃ (r33 : Int), V_rfrob Pf Mf mf x (d * z18) (fun q => q = r33) ∧ (∃ (r37 : Int), V_rAdd Pf Mf mf z17 r33 (fun q => q = r37) ∧ ((I64 (z18 + (1 : Int))) ∧ (I19 r37 (z18 + (1 : Int)) ∧ μ20 r37 (z18 + (1 : Int)) < μ20 z17 z18)))))) ∧ (¬ (z18 < (Mf.tdiv d)) → Q z17))))
theorem ok_rtrace {w : World} {Q : Int → Prop} {Pf : Int} {Mf : Int} {mf : List Int} {x : Int} {d : Int} {Bf : Nat} {Af : Option Addr} {nf kf : Nat} (hf : Rd Bf w 1 Af nf kf (is mf)) (hv : V_rtrace Pf Mf mf x d Q) :
    Calls Try.prog 47 #[.agg #[.int .i64 Pf, .int .i64 Mf, .slice Af nf kf], .int .i64 x, .int .i64 d] w fun e w' => ∃ v Qr, e = .returned v ∧ w.grownBy w' none ∧ Rows w.heap.size none w' Qr ∧ News w.heap.size Qr ∧ ∃ (r0 : Int), v = .int .i64 r0 ∧ Qr = [] ∧ Q r0 := by
  have hnf := hf.ilen
  subst hnf
  refine calls_swap ?_
  refine calls_of_W (vs := [.agg #[.int .i64 Pf, .int .i64 Mf, .slice Af mf.length kf], .int .i64 x, .int .i64 d]) [6] Try.func47 rfl rfl rfl rfl ?_
  have hS := St.start w
  unfold V_rtrace at hv
  refine W.seq ?_
  refine W.region ?_
  refine SL.box (z := 3) (cs := [.int .i64 Pf, .int .i64 Mf, .slice Af mf.length kf]) hS rfl rfl rfl rfl ?_
  intro g11 w12 hS
  refine WL.assign rfl rfl ?_
  refine WL.done ?_
  refine W.seq ?_
  refine W.region ?_
  refine WL.assign rfl rfl ?_
  refine WL.done ?_
  refine W.seq ?_
  refine W.seq ?_
  refine W.region ?_
  refine WL.assign rfl rfl ?_
  refine WL.done ?_
  refine W.block ?_
  obtain ⟨I19, μ20, hv, hk43⟩ := hv
  change St _ _ _ _ [.row 24 3 (some ⟨g11, 0, none⟩) 1 1 [.int .i64 Pf, .int .i64 Mf, .slice Af mf.length kf]] at hS
  refine W.loop (σ := Int × Int) (fun q w1 => match q with | (z17, z18) => I19 z17 z18 ∧ St TT w none w1 [.row 24 3 (some ⟨g11, 0, none⟩) 1 1 [.int .i64 Pf, .int .i64 Mf, .slice Af mf.length kf]]) (fun q => match q with | (z17, z18) => [(1, .int .i64 x), (2, .int .i64 d), (3, .pointer (some ⟨g11, 0, none⟩)), (6, .int .i64 (0 : Int)), (7, .int .i64 z17), (8, .int .i64 z18)]) (fun q => match q with | (z17, z18) => μ20 z17 z18) ((0 : Int), (0 : Int)) ⟨hv, hS⟩ ⟨rfl, rfl, rfl, rfl, rfl, rfl, trivial⟩ ?_
  rintro ⟨z17, z18⟩ w21 ⟨hv, hS⟩
  have hv := hk43 z17 z18 hv
  refine W.seq ?_
  refine W.seq ?_
  refine W.region ?_
  refine WL.move rfl rfl ?_
  refine WL.fieldA (off := 1) Try.fla24_1 rfl rfl ?_
  refine WL.load Try.underlying3 rfl rfl (Own.vcells (hS.own (i := 0) rfl) 1 _ rfl) rfl ?_
  refine WL.move rfl rfl ?_
  obtain ⟨o22, hv⟩ := hv
  refine WL.quo (r := (Mf.tdiv d)) rfl rfl o22.1 (wr o22.2) rfl ?_
  refine WL.lssD rfl rfl rfl ?_
  refine WL.done ?_
  refine W.cond2 rfl (fun c23 => ?_) (fun c23 => ?_)
  · have hv := hv.1 (of_decide_eq_true c23)
    refine W.skip ?_
    refine W.seq ?_
    refine W.block ?_
    obtain ⟨o31, hv⟩ := hv
    obtain ⟨r33, o35, hv⟩ := hv
    obtain ⟨r37, o39, hv⟩ := hv
    have hS0 := hS
    refine W.drawX 10 (fun _ => false) (fun _ => none) [⟨[], [3], false⟩, ⟨[], [7], true⟩, ⟨[], [3], false⟩, ⟨[], [1], true⟩, ⟨[], [2], true⟩, ⟨[], [8], true⟩, ⟨[4, 5], [], true⟩, ⟨[2, 3, 6], [], false⟩, ⟨[0, 1, 7], [], false⟩, ⟨[8], [], true⟩] [[(3, .pointer (some ⟨g11, 0, none⟩))], [(7, .int .i64 z17)], [(3, .pointer (some ⟨g11, 0, none⟩))], [(1, .int .i64 x)], [(2, .int .i64 d)], [(8, .int .i64 z18)], [], [], [], []] (fun iQ => [fun v _ => v = .agg #[.int .i64 Pf, .int .i64 Mf, .slice Af mf.length kf], fun v _ => v = .int .i64 z17, fun v _ => v = .agg #[.int .i64 Pf, .int .i64 Mf, .slice Af mf.length kf], fun v _ => v = .int .i64 x, fun v _ => v = .int .i64 d, fun v _ => v = .int .i64 z18, fun v _ => v = .int .i64 (d * z18), fun v _ => v = .int .i64 r33, fun v _ => v = .int .i64 r37, fun v _ => v = .int .i64 r37].getD iQ (fun _ _ => True)) Try.mixed (by kernel_rfl) ?_ (by kernel_rfl) ?_ ?_
    · refine Vs_monoT _ ?_
      intro VQ hVQ vQ wQ1 wQ2 hQ1 hQ2
      simp only [List.mem_cons, List.not_mem_nil, or_false] at hVQ
      rcases hVQ with rfl | rfl | rfl | rfl | rfl | rfl | rfl | rfl | rfl | rfl
      · exact hQ1
      · exact hQ1
      · exact hQ1
      · exact hQ1
      · exact hQ1
      · exact hQ1
      · exact hQ1
      · exact hQ1
      · exact hQ1
      · exact hQ1
    · refine ⟨⟨rfl, ⟨rfl, trivial⟩, ?_⟩, ⟨rfl, ⟨rfl, trivial⟩, ?_⟩, ⟨rfl, ⟨rfl, trivial⟩, ?_⟩, ⟨rfl, ⟨rfl, trivial⟩, ?_⟩, ⟨rfl, ⟨rfl, trivial⟩, ?_⟩, ⟨rfl, ⟨rfl, trivial⟩, ?_⟩, ⟨rfl, trivial, ?_⟩, ⟨rfl, trivial, ?_⟩, ⟨rfl, trivial, ?_⟩, ⟨rfl, trivial, ?_⟩, trivial⟩
      · intro w24 hE
        have hE := hE rfl
        have hS := hS.grow hE
        intro RR
        refine WL.loadV (cs := [.int .i64 Pf, .int .i64 Mf, .slice Af mf.length kf]) Try.el24 Try.agg24 rfl rfl (Own.vcells (hS.own (i := 0) rfl)) rfl ?_
        exact WL.done ⟨_, rfl, ext_refl _, rfl, (fun h => absurd h (by decide)), (fun j h => by cases h)⟩
      · intro w25 hE
        intro RR
        refine WL.move rfl rfl ?_
        exact WL.done ⟨_, rfl, rfl, rfl, (fun h => absurd h (by decide)), (fun j h => by cases h)⟩
      · intro w26 hE
        have hE := hE rfl
        have hS := hS.grow hE
        intro RR
        refine WL.loadV (cs := [.int .i64 Pf, .int .i64 Mf, .slice Af mf.length kf]) Try.el24 Try.agg24 rfl rfl (Own.vcells (hS.own (i := 0) rfl)) rfl ?_
        exact WL.done ⟨_, rfl, ext_refl _, rfl, (fun h => absurd h (by decide)), (fun j h => by cases h)⟩
      · intro w27 hE
        intro RR
        refine WL.move rfl rfl ?_
        exact WL.done ⟨_, rfl, rfl, rfl, (fun h => absurd h (by decide)), (fun j h => by cases h)⟩
      · intro w28 hE
        intro RR
        refine WL.move rfl rfl ?_
        exact WL.done ⟨_, rfl, rfl, rfl, (fun h => absurd h (by decide)), (fun j h => by cases h)⟩
      · intro w29 hE
        intro RR
        refine WL.move rfl rfl ?_
        exact WL.done ⟨_, rfl, rfl, rfl, (fun h => absurd h (by decide)), (fun j h => by cases h)⟩
      · intro w30 hE
        rintro _ rfl
        rintro _ rfl
        intro RR
        refine WL.mul (r := (d * z18)) rfl rfl (wr o31) rfl ?_
        exact WL.done ⟨_, rfl, rfl, rfl, (fun h => absurd h (by decide)), (fun j h => by cases h)⟩
      · intro w32 hE
        have hE := hE rfl
        have hS := hS.grow hE
        rintro _ rfl
        rintro _ rfl
        rintro _ rfl
        intro RR
        refine WL.call Try.func23 rfl Try.nm23 rfl rfl (calls_un (ok_rfrob (hS.ro hf) o35)) ?_
        rintro _ w34 ⟨_, hGw34, hRww34, hNww34, r33q, rfl, rfl, he⟩
        subst he
        exact WL.done ⟨_, rfl, hGw34, rfl, (fun h => absurd h (by decide)), (fun j h => by cases h)⟩
      · intro w36 hE
        have hE := hE rfl
        have hS := hS.grow hE
        rintro _ rfl
        rintro _ rfl
        rintro _ rfl
        intro RR
        refine WL.call Try.func24 rfl Try.nm24 rfl rfl (calls_un (ok_rAdd (hS.ro hf) o39)) ?_
        rintro _ w38 ⟨_, hGw38, hRww38, hNww38, r37q, rfl, rfl, he⟩
        subst he
        exact WL.done ⟨_, rfl, hGw38, rfl, (fun h => absurd h (by decide)), (fun j h => by cases h)⟩
      · intro w40 hE
        rintro _ rfl
        intro RR
        refine WL.assign rfl rfl ?_
        exact WL.done ⟨_, rfl, rfl, rfl, (fun h => absurd h (by decide)), (fun j h => by cases h)⟩
    · intro vals w41 hT hVs hAp hCp
      have hS := hS.grow hT
      have hv0 : vals 0 = _ := hVs 0 (by decide)
      have hv1 : vals 1 = _ := hVs 1 (by decide)
      have hv2 : vals 2 = _ := hVs 2 (by decide)
      have hv3 : vals 3 = _ := hVs 3 (by decide)
      have hv4 : vals 4 = _ := hVs 4 (by decide)
      have hv5 : vals 5 = _ := hVs 5 (by decide)
      have hv6 : vals 6 = _ := hVs 6 (by decide)
      have hv7 : vals 7 = _ := hVs 7 (by decide)
      have hv8 : vals 8 = _ := hVs 8 (by decide)
      have hv9 : vals 9 = _ := hVs 9 (by decide)
      rw [show (List.filterMap (fun i => Option.map (fun t => (t, vals i)) (dstAt _ i)) (List.range _)) = [(17, .agg #[.int .i64 Pf, .int .i64 Mf, .slice Af mf.length kf]), (18, .int .i64 z17), (19, .agg #[.int .i64 Pf, .int .i64 Mf, .slice Af mf.length kf]), (20, .int .i64 x), (21, .int .i64 d), (22, .int .i64 z18), (23, .int .i64 (d * z18)), (24, .int .i64 r33), (25, .int .i64 r37), (7, .int .i64 r37)] from by
        show [(17, vals 0), (18, vals 1), (19, vals 2), (20, vals 3), (21, vals 4), (22, vals 5), (23, vals 6), (24, vals 7), (25, vals 8), (7, vals 9)] = _
        rw [hv0, hv1, hv2, hv3, hv4, hv5, hv6, hv7, hv8, hv9]]
      refine WA.done (by decide +kernel) ?_
      refine W.region ?_
      refine WL.move rfl rfl ?_
      obtain ⟨o42, hv⟩ := hv
      refine WL.add (r := (z18 + (1 : Int))) rfl rfl (wr o42) rfl ?_
      refine WL.assign rfl rfl ?_
      refine WL.done ?_
      change St _ _ _ _ [.row 24 3 (some ⟨g11, 0, none⟩) 1 1 [.int .i64 Pf, .int .i64 Mf, .slice Af mf.length kf]] at hS
      exact ⟨(r37, (z18 + (1 : Int))), ⟨rfl, rfl, rfl, rfl, rfl, rfl, trivial⟩, hv.2, rfl, hv.1, hS⟩
  · have hv := hv.2 (of_decide_eq_false c23)
    refine W.exit ?_
    refine W.seq ?_
    refine W.region ?_
    refine WL.move rfl rfl ?_
    refine WL.assign rfl rfl ?_
    refine WL.done ?_
    refine W.ret ?_
    refine ⟨_, rfl, Fin.nil ?_⟩
    exact ⟨_, hS.ext, (hS.pick [] rfl).rows, News.of (hS.pick [] rfl).rows rfl, ⟨z17, rfl, rfl, hv⟩⟩

end Go.Proofs.Ythjpminlkcklgaa
set_option linter.unusedSimpArgs false
set_option linter.unusedVariables false
namespace Go.Proofs.Ythjpminlkcklgaa
open Go.RowKit
def V_TowerTraces (Pf : Int) (Mf : Int) (mf : List Int) (v0 : Int) (v1 : Int) (d : Int) (Q : Bool → Prop) : Prop :=
  V_alive  (fun r16 => (((!r16) = true) → Q false) ∧ ((!r16) = false → (V_made Pf Mf mf (fun q => match q with | none => Q true | some F21 => V_trace F21 v0 d (fun q => match q with | (r28, r29) => V_tdivides Pf Mf mf d (fun r31 => (((!r31) = true) → (((r29 = (6 : Int)) → (Q (decide (r28 = (0 : Int))))) ∧ (¬ (r29 = (6 : Int)) → Q false))) ∧ ((!r31) = false → (V_trace F21 v1 d (fun q => match q with | (r35, r36) => V_rAdd Pf Mf mf v0 v1 (fun r38 => V_trace F21 r38 d (fun q => match q with | (r40, r41) => ((r29 = (0 : Int)) → (V_rtrace Pf Mf mf v0 d (fun r44 => ((r28 = r44) → (V_rin Pf Mf mf r28 d (fun r47 => ((r47 = true) → (V_rAdd Pf Mf mf r28 r35 (fun r50 => Q (decide (r40 = r50))))) ∧ (r47 = false → Q false)))) ∧ (¬ (r28 = r44) → Q false)))) ∧ (¬ (r29 = (0 : Int)) → Q false))))))))))))
theorem ok_TowerTraces {w : World} {Q : Bool → Prop} {Pf : Int} {Mf : Int} {mf : List Int} {v0 : Int} {v1 : Int} {d : Int} {Bf : Nat} {Af : Option Addr} {nf kf : Nat} (hf : Rd Bf w 1 Af nf kf (is mf)) (hv : V_TowerTraces Pf Mf mf v0 v1 d Q) :
    Calls Try.prog 12 #[.agg #[.int .i64 Pf, .int .i64 Mf, .slice Af nf kf], .agg #[.int .i64 v0, .int .i64 v1], .int .i64 d] w fun e w' => ∃ v Qr, e = .returned v ∧ w.grownBy w' none ∧ Rows w.heap.size none w' Qr ∧ News w.heap.size Qr ∧ ∃ (r0 : Bool), v = .bool r0 ∧ Qr = [] ∧ Q r0 := by
  have hnf := hf.ilen
  subst hnf
  refine calls_swap ?_
  refine calls_of_W (vs := [.agg #[.int .i64 Pf, .int .i64 Mf, .slice Af mf.length kf], .agg #[.int .i64 v0, .int .i64 v1], .int .i64 d]) [6] Try.func12 rfl rfl rfl rfl ?_
  have hS := St.start w
  unfold V_TowerTraces at hv
  refine W.seq ?_
  refine W.region ?_
  refine SL.box (z := 3) (cs := [.int .i64 Pf, .int .i64 Mf, .slice Af mf.length kf]) hS rfl rfl rfl rfl ?_
  intro g11 w12 hS
  refine SL.box (z := 2) (cs := [.int .i64 v0, .int .i64 v1]) hS rfl rfl rfl rfl ?_
  intro g13 w14 hS
  refine WL.assign rfl rfl ?_
  refine WL.done ?_
  refine W.seq ?_
  refine W.seq ?_
  refine W.region ?_
  refine SL.call hS (ok_alive  hv) Try.func20 rfl Try.nm20 rfl rfl ?_
  rintro _ _ w15 ⟨r16, rfl, rfl, hv⟩ hGw15 hS
  change St _ _ _ _ [.row 31 2 (some ⟨g13, 0, none⟩) 1 1 [.int .i64 v0, .int .i64 v1], .row 24 3 (some ⟨g11, 0, none⟩) 1 1 [.int .i64 Pf, .int .i64 Mf, .slice Af mf.length kf]] at hS
  refine WL.not rfl rfl ?_
  refine WL.done ?_
  refine W.cond2 rfl (fun c17 => ?_) (fun c17 => ?_)
  · have hv := hv.1 (c17)
    refine W.seq ?_
    refine W.region ?_
    refine WL.assign rfl rfl ?_
    refine WL.done ?_
    refine W.ret ?_
    refine ⟨_, rfl, Fin.nil ?_⟩
    exact ⟨_, hS.ext, (hS.pick [] rfl).rows, News.of (hS.pick [] rfl).rows rfl, ⟨false, rfl, rfl, hv⟩⟩
  · have hv := hv.2 (c17)
    refine W.skip ?_
    refine W.seq ?_
    refine W.region ?_
    refine WL.loadV (cs := [.int .i64 Pf, .int .i64 Mf, .slice Af mf.length kf]) Try.el24 Try.agg24 rfl rfl (Own.vcells (hS.own (i := 1) rfl)) rfl ?_
    refine SL.call hS (ok_made (hS.ro hf) hv) Try.func21 rfl Try.nm21 rfl rfl ?_
    rintro _ _ w19 ⟨o, hv, hK⟩ hGw19 hS
    cases o with
    | none =>
      obtain ⟨rfl, rfl⟩ := hK
      change St _ _ _ _ [.row 31 2 (some ⟨g13, 0, none⟩) 1 1 [.int .i64 v0, .int .i64 v1], .row 24 3 (some ⟨g11, 0, none⟩) 1 1 [.int .i64 Pf, .int .i64 Mf, .slice Af mf.length kf]] at hS
      refine WL.assign rfl rfl ?_
      refine WL.done ?_
      refine W.seq ?_
      refine W.seq ?_
      refine W.region ?_
      refine WL.move rfl rfl ?_
      refine WL.eqlPn Try.underlying26 rfl rfl rfl rfl ?_
      refine WL.done ?_
      refine W.condT rfl ?_
      refine W.seq ?_
      refine W.region ?_
      refine WL.assign rfl rfl ?_
      refine WL.done ?_
      refine W.ret ?_
      refine ⟨_, rfl, Fin.nil ?_⟩
      exact ⟨_, hS.ext, (hS.pick [] rfl).rows, News.of (hS.pick [] rfl).rows rfl, ⟨true, rfl, rfl, hv⟩⟩
    | some F21 =>
      obtain ⟨ad22, lo23, hi24, rfl, rfl⟩ := hK
      change St _ _ _ _ [.ch lo23 hi24 (fun wz => GFX lo23 hi24 wz ad22 F21), .row 31 2 (some ⟨g13, 0, none⟩) 1 1 [.int .i64 v0, .int .i64 v1], .row 24 3 (some ⟨g11, 0, none⟩) 1 1 [.int .i64 Pf, .int .i64 Mf, .slice Af mf.length kf]] at hS
      refine WL.assign rfl rfl ?_
      refine WL.done ?_
      refine W.seq ?_
      refine W.seq ?_
      refine W.region ?_
      refine WL.move rfl rfl ?_
      refine WL.eqlPn Try.underlying26 rfl rfl rfl rfl ?_
      refine WL.done ?_
      refine W.condF rfl ?_
      refine W.skip ?_
      refine W.seq ?_
      refine W.region ?_
      refine WL.move rfl rfl ?_
      refine WL.indexP 0 Try.arr31 rfl rfl rfl (by decide) rfl rfl ?_
      refine WL.load Try.underlying3 rfl rfl (Own.vcells (hS.own (i := 1) rfl) 0 _ rfl) rfl ?_
      refine WL.move rfl rfl ?_
      refine SL.call hS (ok_trace (GFX.gfr (hS.chunk (i := 0) rfl)) hv) Try.func46 rfl Try.nm46 rfl rfl ?_
      rintro _ _ w27 ⟨r28, r29, rfl, rfl, hv⟩ hGw27 hS
      change St _ _ _ _ [.ch lo23 hi24 (fun wz => GFX lo23 hi24 wz ad22 F21), .row 31 2 (some ⟨g13, 0, none⟩) 1 1 [.int .i64 v0, .int .i64 v1], .row 24 3 (some ⟨g11, 0, none⟩) 1 1 [.int .i64 Pf, .int .i64 Mf, .slice Af mf.length kf]] at hS
      refine WL.move rfl rfl ?_
      refine WL.extract rfl rfl rfl ?_
      refine WL.extract rfl rfl rfl ?_
      refine WL.assign rfl rfl ?_
      refine WL.assign rfl rfl ?_
      refine WL.done ?_
      refine W.seq ?_
      refine W.seq ?_
      refine W.region ?_
      refine WL.loadV (cs := [.int .i64 Pf, .int .i64 Mf, .slice Af mf.length kf]) Try.el24 Try.agg24 rfl rfl (Own.vcells (hS.own (i := 2) rfl)) rfl ?_
      refine WL.move rfl rfl ?_
      refine SL.call hS (ok_tdivides (hS.ro hf) hv) Try.func28 rfl Try.nm28 rfl rfl ?_
      rintro _ _ w30 ⟨r31, rfl, rfl, hv⟩ hGw30 hS
      change St _ _ _ _ [.ch lo23 hi24 (fun wz => GFX lo23 hi24 wz ad22 F21), .row 31 2 (some ⟨g13, 0, none⟩) 1 1 [.int .i64 v0, .int .i64 v1], .row 24 3 (some ⟨g11, 0, none⟩) 1 1 [.int .i64 Pf, .int .i64 Mf, .slice Af mf.length kf]] at hS
      refine WL.not rfl rfl ?_
      refine WL.done ?_
      refine W.cond2 rfl (fun c32 => ?_) (fun c32 => ?_)
      · have hv := hv.1 (c32)
        refine W.seq ?_
        refine W.region ?_
        refine WL.move rfl rfl ?_
        refine WL.eqlD rfl rfl rfl ?_
        refine WL.move rfl rfl ?_
        by_cases g33 : r29 = (6 : Int)
        · have hv := hv.1 g33
          rw [decide_eq_true g33]
          refine WL.take rfl ?_
          refine WL.move rfl rfl ?_
          refine WL.take rfl ?_
          refine WL.eqlD rfl rfl rfl ?_
          refine WL.pick rfl rfl rfl ?_
          refine WL.assign rfl rfl ?_
          refine WL.done ?_
          refine W.ret ?_
          refine ⟨_, rfl, Fin.nil ?_⟩
          exact ⟨_, hS.ext, (hS.pick [] rfl).rows, News.of (hS.pick [] rfl).rows rfl, ⟨(decide (r28 = (0 : Int))), rfl, rfl, hv⟩⟩
        · have hv := hv.2 g33
          rw [decide_eq_false g33]
          refine WL.pass rfl rfl rfl ?_
          refine WL.pass rfl rfl rfl ?_
          refine WL.pick rfl rfl rfl ?_
          refine WL.assign rfl rfl ?_
          refine WL.done ?_
          refine W.ret ?_
          refine ⟨_, rfl, Fin.nil ?_⟩
          exact ⟨_, hS.ext, (hS.pick [] rfl).rows, News.of (hS.pick [] rfl).rows rfl, ⟨false, rfl, rfl, hv⟩⟩
      · have hv := hv.2 (c32)
        refine W.skip ?_
        refine W.seq ?_
        refine W.region ?_
        refine WL.move rfl rfl ?_
        refine WL.indexP 1 Try.arr31 rfl rfl rfl (by decide) rfl rfl ?_
        refine WL.load Try.underlying3 rfl rfl (Own.vcells (hS.own (i := 1) rfl) 1 _ rfl) rfl ?_
        refine WL.move rfl rfl ?_
        refine SL.call hS (ok_trace (GFX.gfr (hS.chunk (i := 0) rfl)) hv) Try.func46 rfl Try.nm46 rfl rfl ?_
        rintro _ _ w34 ⟨r35, r36, rfl, rfl, hv⟩ hGw34 hS
        change St _ _ _ _ [.ch lo23 hi24 (fun wz => GFX lo23 hi24 wz ad22 F21), .row 31 2 (some ⟨g13, 0, none⟩) 1 1 [.int .i64 v0, .int .i64 v1], .row 24 3 (some ⟨g11, 0, none⟩) 1 1 [.int .i64 Pf, .int .i64 Mf, .slice Af mf.length kf]] at hS
        refine WL.move rfl rfl ?_
        refine WL.extract rfl rfl rfl ?_
        refine WL.extract rfl rfl rfl ?_
        refine WL.assign rfl rfl ?_
        refine WL.assign rfl rfl ?_
        refine WL.done ?_
        refine W.seq ?_
        refine W.region ?_
        refine WL.move rfl rfl ?_
        refine WL.loadV (cs := [.int .i64 Pf, .int .i64 Mf, .slice Af mf.length kf]) Try.el24 Try.agg24 rfl rfl (Own.vcells (hS.own (i := 2) rfl)) rfl ?_
        refine WL.indexP 0 Try.arr31 rfl rfl rfl (by decide) rfl rfl ?_
        refine WL.load Try.underlying3 rfl rfl (Own.vcells (hS.own (i := 1) rfl) 0 _ rfl) rfl ?_
        refine WL.indexP 1 Try.arr31 rfl rfl rfl (by decide) rfl rfl ?_
        refine WL.load Try.underlying3 rfl rfl (Own.vcells (hS.own (i := 1) rfl) 1 _ rfl) rfl ?_
        refine SL.call hS (ok_rAdd (hS.ro hf) hv) Try.func24 rfl Try.nm24 rfl rfl ?_
        rintro _ _ w37 ⟨r38, rfl, rfl, hv⟩ hGw37 hS
        change St _ _ _ _ [.ch lo23 hi24 (fun wz => GFX lo23 hi24 wz ad22 F21), .row 31 2 (some ⟨g13, 0, none⟩) 1 1 [.int .i64 v0, .int .i64 v1], .row 24 3 (some ⟨g11, 0, none⟩) 1 1 [.int .i64 Pf, .int .i64 Mf, .slice Af mf.length kf]] at hS
        refine WL.move rfl rfl ?_
        refine SL.call hS (ok_trace (GFX.gfr (hS.chunk (i := 0) rfl)) hv) Try.func46 rfl Try.nm46 rfl rfl ?_
        rintro _ _ w39 ⟨r40, r41, rfl, rfl, hv⟩ hGw39 hS
        change St _ _ _ _ [.ch lo23 hi24 (fun wz => GFX lo23 hi24 wz ad22 F21), .row 31 2 (some ⟨g13, 0, none⟩) 1 1 [.int .i64 v0, .int .i64 v1], .row 24 3 (some ⟨g11, 0, none⟩) 1 1 [.int .i64 Pf, .int .i64 Mf, .slice Af mf.length kf]] at hS
        refine WL.move rfl rfl ?_
        refine WL.extract rfl rfl rfl ?_
        refine WL.extract rfl rfl rfl ?_
        refine WL.assign rfl rfl ?_
        refine WL.assign rfl rfl ?_
        refine WL.done ?_
        refine W.seq ?_
        refine W.region ?_
        refine WL.move rfl rfl ?_
        refine WL.eqlD rfl rfl rfl ?_
        refine WL.move rfl rfl ?_
        by_cases g42 : r29 = (0 : Int)
        · have hv := hv.1 g42
          rw [decide_eq_true g42]
          refine WL.take rfl ?_
          refine WL.move rfl rfl ?_
          refine WL.take rfl ?_
          refine WL.loadV (cs := [.int .i64 Pf, .int .i64 Mf, .slice Af mf.length kf]) Try.el24 Try.agg24 rfl rfl (Own.vcells (hS.own (i := 2) rfl)) rfl ?_
          refine WL.take rfl ?_
          refine WL.indexP 0 Try.arr31 rfl rfl rfl (by decide) rfl rfl ?_
          refine WL.take rfl ?_
          refine WL.load Try.underlying3 rfl rfl (Own.vcells (hS.own (i := 1) rfl) 0 _ rfl) rfl ?_
          refine WL.take rfl ?_
          refine WL.move rfl rfl ?_
          refine WL.take rfl ?_
          refine SL.call hS (ok_rtrace (hS.ro hf) hv) Try.func47 rfl Try.nm47 rfl rfl ?_
          rintro _ _ w43 ⟨r44, rfl, rfl, hv⟩ hGw43 hS
          change St _ _ _ _ [.ch lo23 hi24 (fun wz => GFX lo23 hi24 wz ad22 F21), .row 31 2 (some ⟨g13, 0, none⟩) 1 1 [.int .i64 v0, .int .i64 v1], .row 24 3 (some ⟨g11, 0, none⟩) 1 1 [.int .i64 Pf, .int .i64 Mf, .slice Af mf.length kf]] at hS
          refine WL.take rfl ?_
          refine WL.eqlD rfl rfl rfl ?_
          refine WL.pick rfl rfl rfl ?_
          refine WL.move rfl rfl ?_
          by_cases g45 : r28 = r44
          · have hv := hv.1 g45
            rw [decide_eq_true g45]
            refine WL.take rfl ?_
            refine WL.loadV (cs := [.int .i64 Pf, .int .i64 Mf, .slice Af mf.length kf]) Try.el24 Try.agg24 rfl rfl (Own.vcells (hS.own (i := 2) rfl)) rfl ?_
            refine WL.take rfl ?_
            refine WL.move rfl rfl ?_
            refine WL.take rfl ?_
            refine WL.move rfl rfl ?_
            refine WL.take rfl ?_
            refine SL.call hS (ok_rin (hS.ro hf) hv) Try.func36 rfl Try.nm36 rfl rfl ?_
            rintro _ _ w46 ⟨r47, rfl, rfl, hv⟩ hGw46 hS
            change St _ _ _ _ [.ch lo23 hi24 (fun wz => GFX lo23 hi24 wz ad22 F21), .row 31 2 (some ⟨g13, 0, none⟩) 1 1 [.int .i64 v0, .int .i64 v1], .row 24 3 (some ⟨g11, 0, none⟩) 1 1 [.int .i64 Pf, .int .i64 Mf, .slice Af mf.length kf]] at hS
            refine WL.pick rfl rfl rfl ?_
            refine WL.move rfl rfl ?_
            cases g48 : r47
            · have hv := hv.2 g48
              refine WL.pass rfl rfl rfl ?_
              refine WL.pass rfl rfl rfl ?_
              refine WL.pass rfl rfl rfl ?_
              refine WL.pass rfl rfl rfl ?_
              refine WL.pass rfl rfl rfl ?_
              refine WL.pass rfl rfl rfl ?_
              refine WL.pick rfl rfl rfl ?_
              refine WL.assign rfl rfl ?_
              refine WL.done ?_
              refine W.ret ?_
              refine ⟨_, rfl, Fin.nil ?_⟩
              exact ⟨_, hS.ext, (hS.pick [] rfl).rows, News.of (hS.pick [] rfl).rows rfl, ⟨false, rfl, rfl, hv⟩⟩
            · have hv := hv.1 g48
              refine WL.take rfl ?_
              refine WL.move rfl rfl ?_
              refine WL.take rfl ?_
              refine WL.loadV (cs := [.int .i64 Pf, .int .i64 Mf, .slice Af mf.length kf]) Try.el24 Try.agg24 rfl rfl (Own.vcells (hS.own (i := 2) rfl)) rfl ?_
              refine WL.take rfl ?_
              refine WL.move rfl rfl ?_
              refine WL.take rfl ?_
              refine WL.move rfl rfl ?_
              refine WL.take rfl ?_
              refine SL.call hS (ok_rAdd (hS.ro hf) hv) Try.func24 rfl Try.nm24 rfl rfl ?_
              rintro _ _ w49 ⟨r50, rfl, rfl, hv⟩ hGw49 hS
              change St _ _ _ _ [.ch lo23 hi24 (fun wz => GFX lo23 hi24 wz ad22 F21), .row 31 2 (some ⟨g13, 0, none⟩) 1 1 [.int .i64 v0, .int .i64 v1], .row 24 3 (some ⟨g11, 0, none⟩) 1 1 [.int .i64 Pf, .int .i64 Mf, .slice Af mf.length kf]] at hS
              refine WL.take rfl ?_
              refine WL.eqlD rfl rfl rfl ?_
              refine WL.pick rfl rfl rfl ?_
              refine WL.assign rfl rfl ?_
              refine WL.done ?_
              refine W.ret ?_
              refine ⟨_, rfl, Fin.nil ?_⟩
              exact ⟨_, hS.ext, (hS.pick [] rfl).rows, News.of (hS.pick [] rfl).rows rfl, ⟨(decide (r40 = r50)), rfl, rfl, hv⟩⟩
          · have hv := hv.2 g45
            rw [decide_eq_false g45]
            refine WL.pass rfl rfl rfl ?_
            refine WL.pass rfl rfl rfl ?_
            refine WL.pass rfl rfl rfl ?_
            refine WL.pass rfl rfl rfl ?_
            refine WL.pick rfl rfl rfl ?_
            refine WL.move rfl rfl ?_
            refine WL.pass rfl rfl rfl ?_
            refine WL.pass rfl rfl rfl ?_
            refine WL.pass rfl rfl rfl ?_
            refine WL.pass rfl rfl rfl ?_
            refine WL.pass rfl rfl rfl ?_
            refine WL.pass rfl rfl rfl ?_
            refine WL.pick rfl rfl rfl ?_
            refine WL.assign rfl rfl ?_
            refine WL.done ?_
            refine W.ret ?_
            refine ⟨_, rfl, Fin.nil ?_⟩
            exact ⟨_, hS.ext, (hS.pick [] rfl).rows, News.of (hS.pick [] rfl).rows rfl, ⟨false, rfl, rfl, hv⟩⟩
        · have hv := hv.2 g42
          rw [decide_eq_false g42]
          refine WL.pass rfl rfl rfl ?_
          refine WL.pass rfl rfl rfl ?_
          refine WL.pass rfl rfl rfl ?_
          refine WL.pass rfl rfl rfl ?_
          refine WL.pass rfl rfl rfl ?_
          refine WL.pass rfl rfl rfl ?_
          refine WL.pass rfl rfl rfl ?_
          refine WL.pick rfl rfl rfl ?_
          refine WL.move rfl rfl ?_
          refine WL.pass rfl rfl rfl ?_
          refine WL.pass rfl rfl rfl ?_
          refine WL.pass rfl rfl rfl ?_
          refine WL.pass rfl rfl rfl ?_
          refine WL.pick rfl rfl rfl ?_
          refine WL.move rfl rfl ?_
          refine WL.pass rfl rfl rfl ?_
          refine WL.pass rfl rfl rfl ?_
          refine WL.pass rfl rfl rfl ?_
          refine WL.pass rfl rfl rfl ?_
          refine WL.pass rfl rfl rfl ?_
          refine WL.pass rfl rfl rfl ?_
          refine WL.pick rfl rfl rfl ?_
          refine WL.assign rfl rfl ?_
          refine WL.done ?_
          refine W.ret ?_
          refine ⟨_, rfl, Fin.nil ?_⟩
          exact ⟨_, hS.ext, (hS.pick [] rfl).rows, News.of (hS.pick [] rfl).rows rfl, ⟨false, rfl, rfl, hv⟩⟩

end Go.Proofs.Ythjpminlkcklgaa
set_option linter.unusedVariables false
namespace Go.Proofs.Ythjpminlkcklgaa
namespace Cm
end Cm
section
variable {q g p m : Nat} {A M : Nat → Nat → Nat}
theorem trc_add (R : CR q A M) (G : Gn q M g) (hp : IsLf p p) (hch : ∀ x, x < q → ns A x p = 0) {x y : Nat} (hx : x < q) (hy : y < q) (d t : Nat) : trc A M p d t (A x y) = A (trc A M p d t x) (trc A M p d t y) := by
  unfold trc
  rw [← R.add.two (fun i => R.pw_lt x _) (fun i => R.pw_lt y _)]
  exact sO_congr t fun i _ => R.fr_add G hp hch hx hy _
theorem trc_fr (R : CR q A M) (G : Gn q M g) (hp : IsLf p p) (hp0 : 0 < p) (hch : ∀ x, x < q → ns A x p = 0) {x : Nat} (hx : x < q) (d t j : Nat) : pw M (trc A M p d t x) (p ^ j) = trc A M p d t (pw M x (p ^ j)) := by
  unfold trc
  rw [R.add.hom (fun i => R.pw_lt x _) (φ := fun z => pw M z (p ^ j)) (R.zero_pw (Nat.pow_pos hp0)) (fun h1 h2 => R.fr_add G hp hch h1 h2 j)]
  exact sO_congr t fun i _ => by rw [R.fr_comp hx, R.fr_comp hx, Nat.add_comm]
/-- The trace is in the subfield. -/
theorem trc_in (R : CR q A M) (G : Gn q M g) (hp : IsLf p p) (hp0 : 0 < p) (hch : ∀ x, x < q → ns A x p = 0) {x d t : Nat} (hx : x < q) (hq : q = p ^ (d * t)) : pw M (trc A M p d t x) (p ^ d) = trc A M p d t x := by
  rw [trc_fr R G hp hp0 hch hx]
  unfold trc
  rw [← R.add.shift (f := fun i => pw M x (p ^ (d * i))) (fun i => R.pw_lt x _) (by show pw M x (p ^ (d * t)) = pw M x (p ^ (d * 0)); rw [R.fr_m G hq hx, Nat.mul_zero, R.fr_zero hx])]
  exact sO_congr t fun i _ => by rw [R.fr_comp hx, Nat.mul_succ, Nat.add_comm]
end
end Go.Proofs.Ythjpminlkcklgaa
set_option linter.unusedVariables false
set_option linter.unusedSimpArgs false
namespace Go.Proofs.Ythjpminlkcklgaa
section
variable {F : GFv} {p m v g : Nat} {P M : Int} {mf : List Int}
theorem w_rtrace {x : Int} {c t : Nat} {Q : Int → Prop} (K : GFk F p m v g) (hF : FV P M mf p m v) (hc : 0 < c) (hm : m = c * t) (h : Q ((trc (fadd p m) (fmul p m (dv p v)) p c t (inE (p ^ m) x) : Nat) : Int)) : V_rtrace P M mf x (c : Int) Q := by
  have hm8 := hF.m8
  have R := K.fv.ring
  have e : M.tdiv (c : Int) = (t : Int) := by rw [hF.eM, tdivN m c, hm, Nat.mul_div_cancel_left _ hc]
  have ht : t ≤ m := by rw [hm]; exact Nat.le_mul_of_pos_left _ hc
  refine ⟨fun z i => ∃ j : Nat, i = j ∧ j ≤ t ∧ z = ((sO (fadd p m) 0 (fun i => pw (fmul p m (dv p v)) (inE (p ^ m) x) (p ^ (c * i))) j : Nat) : Int), fun z i => (t - i).toNat, ⟨0, rfl, Nat.zero_le _, rfl⟩, ?_⟩
  rintro _ _ ⟨j, rfl, hj, rfl⟩
  dsimp only
  rw [e]
  have ecj : (c : Int) * (j : Int) = ((c * j : Nat) : Int) := by push_cast; rfl
  have hb : c * j ≤ m := by rw [hm]; exact Nat.mul_le_mul_left _ hj
  refine ⟨⟨by omega, small (by omega) (by omega)⟩, fun hlt => ?_, fun hge => ?_⟩
  · rw [ecj]
    refine ⟨small (by omega) (by omega), _, w_rfrob K hF (by omega) rfl, _, v_rAdd hF rfl, small (by omega) (by omega), ⟨j + 1, by push_cast; rfl, by omega, ?_⟩, by omega⟩
    rw [inE_nat (R.add.lt _ _), inE_nat (R.pw_lt _ _)]; rfl
  · rw [show j = t by omega]; exact h
end
end Go.Proofs.Ythjpminlkcklgaa
set_option linter.unusedVariables false
set_option linter.unusedSimpArgs false
namespace Go.Proofs.Ythjpminlkcklgaa
section
variable {F : GFv} {p m v g : Nat} {P M : Int} {mf : List Int}
theorem trc_lt (R : CR (p ^ m) (fadd p m) (fmul p m (dv p v))) (d t x : Nat) : trc (fadd p m) (fmul p m (dv p v)) p d t x < p ^ m := R.add.lt _ _
theorem law_TowerTraces (x y d : Int) : V_TowerTraces P M mf x y d (fun b => b = true) := by
  refine w_alive (nb (w_made (fun _ => rfl) fun F p m v g K hF => ?_))
  have R := hF.ring
  have hx := inE_lt R.pos x
  have hy := inE_lt R.pos y
  have hp := hF.p2
  have hm8 := hF.m8
  refine w_trace K (fun hn => w_tdivides hF (fun c t e h1 h2 => absurd ⟨c, t, e, h1, h2⟩ hn) fun _ => nf ⟨fun _ => rfl, fun h => absurd rfl h⟩) fun c t e hc hm => ?_
  subst e
  have ht : t ≤ m := by rw [hm]; exact Nat.le_mul_of_pos_left _ hc
  have hcm : c ≤ m := by
    have hm0 := K.fv.m0
    have ht : 0 < t := Nat.pos_of_ne_zero fun e => by rw [e, Nat.mul_zero] at hm; omega
    rw [hm]; exact Nat.le_mul_of_pos_right _ ht
  refine w_tdivides hF (fun c' t' e h1 h2 => nb ?_) fun hn => absurd ⟨c, t, rfl, hc, hm⟩ hn
  have hct : ∀ c' t' : Nat, (c : Int) = c' → m = c' * t' → c' = c ∧ t' = t := fun c' t' e h2 => by
    obtain rfl : c' = c := by omega
    exact ⟨rfl, Nat.eq_of_mul_eq_mul_left hc (h2.symm.trans hm)⟩
  refine w_trace K (fun hn => absurd ⟨c, t, rfl, hc, hm⟩ hn) fun c2 t2 e2 _ h22 => ?_
  obtain ⟨rfl, rfl⟩ := hct c2 t2 e2 h22
  refine v_rAdd hF (w_trace K (fun hn => absurd ⟨c2, t2, rfl, hc, hm⟩ hn) fun c3 t3 e3 _ h33 => ?_)
  obtain ⟨rfl, rfl⟩ := hct c3 t3 e3 h33
  refine ⟨fun _ => w_rtrace K hF hc hm ⟨fun _ => w_rin K hF (by omega) ?_, fun h => absurd rfl h⟩, fun h => absurd rfl h⟩
  rw [inE_nat (trc_lt R _ _ _), decide_eq_true (trc_in R K.G hF.pr (by omega) (chz hF) hx (by rw [hm]))]
  refine ⟨fun _ => v_rAdd hF (decide_eq_true ?_), fun h => absurd h (by decide)⟩
  rw [inE_nat (R.Al _ _), inE_nat (trc_lt R _ _ _), inE_nat (trc_lt R _ _ _), trc_add R K.G hF.pr (chz hF) hx hy]
end
end Go.Proofs.Ythjpminlkcklgaa
