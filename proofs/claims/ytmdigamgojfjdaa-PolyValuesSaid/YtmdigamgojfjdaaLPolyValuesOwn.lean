/- What only this law leans on. -/
import Derived.Test.YtmdigamgojfjdaaPolyAddsG12
set_option linter.unusedSimpArgs false
set_option linter.unusedVariables false
namespace Go.Proofs.Ytmdigamgojfjdaa
open Go.RowKit
def V_PolyValues (Pf : Int) (Mf : Int) (mf : List Int) (vv0 : List Int) (vv1 : List Int) (x : Int) (Q : Bool → Prop) : Prop :=
  V_alive  (fun r16 => (((!r16) = true) → Q false) ∧ ((!r16) = false → (V_made Pf Mf mf (fun q => match q with | none => Q true | some F21 => V_short ([vv0, vv1] : List (List Int)) (fun r45 => (((!r45) = true) → Q true) ∧ ((!r45) = false → (V_eval F21 vv0 x (fun r48 => V_eval F21 vv1 x (fun r50 => V_reval Pf Mf mf vv0 x (fun r52 => ((r48 ≠ r52) → Q false) ∧ (¬ (r48 ≠ r52) → (V_reval Pf Mf mf vv1 x (fun r55 => ((r50 ≠ r55) → Q false) ∧ (¬ (r50 ≠ r55) → (∃ (x62 : List Int), V_padd F21 vv0 vv1 (fun q => q = x62) ∧ (∃ (r72 : Int), V_eval F21 x62 x (fun q => q = r72) ∧ (∃ (r79 : Int), V_rAdd Pf Mf mf r48 r50 (fun q => q = r79) ∧ ((r72 = r79) ∧ (∃ (x97 : List Int), V_pmul F21 ([vv0, vv1] : List (List Int)) (fun q => q = x97) ∧ (∃ (r107 : Int), V_eval F21 x97 x (fun q => q = r107) ∧ (∃ (r114 : Int), V_rMul Pf Mf mf r48 r50 (fun q => q = r114) ∧ (Q (decide (r107 = r114))))))))))))))))))))))))
theorem ok_PolyValues {w : World} {Q : Bool → Prop} {Pf : Int} {Mf : Int} {mf : List Int} {vv0 : List Int} {vv1 : List Int} {x : Int} {Bf : Nat} {Af : Option Addr} {nf kf : Nat} (hf : Rd Bf w 1 Af nf kf (is mf)) {Bvv0 : Nat} {Avv0 : Option Addr} {nvv0 kvv0 : Nat} (hvv0 : Rd Bvv0 w 1 Avv0 nvv0 kvv0 (is vv0)) {Bvv1 : Nat} {Avv1 : Option Addr} {nvv1 kvv1 : Nat} (hvv1 : Rd Bvv1 w 1 Avv1 nvv1 kvv1 (is vv1)) (hv : V_PolyValues Pf Mf mf vv0 vv1 x Q) :
    Calls Try.prog 11 #[.agg #[.int .i64 Pf, .int .i64 Mf, .slice Af nf kf], .agg #[.slice Avv0 nvv0 kvv0, .slice Avv1 nvv1 kvv1], .int .i64 x] w fun e w' => ∃ v Qr, e = .returned v ∧ w.grownBy w' none ∧ Rows w.heap.size none w' Qr ∧ News w.heap.size Qr ∧ ∃ (r0 : Bool), v = .bool r0 ∧ Qr = [] ∧ Q r0 := by
  have hnf := hf.ilen
  subst hnf
  have hnvv0 := hvv0.ilen
  subst hnvv0
  have hnvv1 := hvv1.ilen
  subst hnvv1
  refine calls_swap ?_
  refine calls_of_W (vs := [.agg #[.int .i64 Pf, .int .i64 Mf, .slice Af mf.length kf], .agg #[.slice Avv0 vv0.length kvv0, .slice Avv1 vv1.length kvv1], .int .i64 x]) [6] Try.func11 rfl rfl rfl rfl ?_
  have hS := St.start w
  unfold V_PolyValues at hv
  refine W.seq ?_
  refine W.region ?_
  refine SL.box (z := 3) (cs := [.int .i64 Pf, .int .i64 Mf, .slice Af mf.length kf]) hS rfl rfl rfl rfl ?_
  intro g11 w12 hS
  refine SL.box (z := 2) (cs := [.slice Avv0 vv0.length kvv0, .slice Avv1 vv1.length kvv1]) hS rfl rfl rfl rfl ?_
  intro g13 w14 hS
  refine WL.assign rfl rfl ?_
  refine WL.done ?_
  refine W.seq ?_
  refine W.seq ?_
  refine W.region ?_
  refine SL.call hS (ok_alive  hv) Try.func20 rfl Try.nm20 rfl rfl ?_
  rintro _ _ w15 ⟨r16, rfl, rfl, hv⟩ hGw15 hS
  change St _ _ _ _ [.row 54 2 (some ⟨g13, 0, none⟩) 1 1 [.slice Avv0 vv0.length kvv0, .slice Avv1 vv1.length kvv1], .row 24 3 (some ⟨g11, 0, none⟩) 1 1 [.int .i64 Pf, .int .i64 Mf, .slice Af mf.length kf]] at hS
  refine WL.not rfl rfl ?_
  refine WL.done ?_
  refine W.cond2 rfl (fun c17 => ?_) (fun c17 => ?_)
  · have hv := hv.1 (c17)
    refine W.seq ?_
    refine W.region ?_
    refine WL.assign rfl rfl ?_
    refine WL.done ?_
    refine W.ret ?_
    refine ⟨_, rfl, Fin.nil ?_⟩
    exact ⟨_, hS.ext, (hS.pick [] rfl).rows, News.of (hS.pick [] rfl).rows rfl, ⟨false, rfl, rfl, hv⟩⟩
  · have hv := hv.2 (c17)
    refine W.skip ?_
    refine W.seq ?_
    refine W.region ?_
    refine WL.loadV (cs := [.int .i64 Pf, .int .i64 Mf, .slice Af mf.length kf]) Try.el24 Try.agg24 rfl rfl (Own.vcells (hS.own (i := 1) rfl)) rfl ?_
    refine SL.call hS (ok_made (hS.ro hf) hv) Try.func21 rfl Try.nm21 rfl rfl ?_
    rintro _ _ w19 ⟨o, hv, hK⟩ hGw19 hS
    cases o with
    | none =>
      obtain ⟨rfl, rfl⟩ := hK
      change St _ _ _ _ [.row 54 2 (some ⟨g13, 0, none⟩) 1 1 [.slice Avv0 vv0.length kvv0, .slice Avv1 vv1.length kvv1], .row 24 3 (some ⟨g11, 0, none⟩) 1 1 [.int .i64 Pf, .int .i64 Mf, .slice Af mf.length kf]] at hS
      refine WL.assign rfl rfl ?_
      refine WL.done ?_
      refine W.seq ?_
      have hS0 := hS
      refine W.drawX 6 (fun _ => false) (fun _ => none) [⟨[], [4], true⟩, ⟨[0], [], false⟩, ⟨[], [4], true⟩, ⟨[2], [], false⟩, ⟨[1], [], true⟩, ⟨[3], [], true⟩] [[(4, .pointer (some ⟨g13, 0, none⟩))], [], [(4, .pointer (some ⟨g13, 0, none⟩))], [], [], []] (fun iQ => [fun v _ => v = .pointer (some ⟨g13, 0, none⟩), fun v _ => v = .slice Avv0 vv0.length kvv0, fun v _ => v = .pointer (some ((⟨g13, 0, none⟩ : Addr).add 1)), fun v _ => v = .slice Avv1 vv1.length kvv1, fun v _ => v = .slice Avv0 vv0.length kvv0, fun v _ => v = .slice Avv1 vv1.length kvv1].getD iQ (fun _ _ => True)) Try.mixed (by kernel_rfl) ?_ (by kernel_rfl) ?_ ?_
      · refine Vs_monoT _ ?_
        intro VQ hVQ vQ wQ1 wQ2 hQ1 hQ2
        simp only [List.mem_cons, List.not_mem_nil, or_false] at hVQ
        rcases hVQ with rfl | rfl | rfl | rfl | rfl | rfl
        · exact hQ1
        · exact hQ1
        · exact hQ1
        · exact hQ1
        · exact hQ1
        · exact hQ1
      · refine ⟨⟨rfl, ⟨rfl, trivial⟩, ?_⟩, ⟨rfl, trivial, ?_⟩, ⟨rfl, ⟨rfl, trivial⟩, ?_⟩, ⟨rfl, trivial, ?_⟩, ⟨rfl, trivial, ?_⟩, ⟨rfl, trivial, ?_⟩, trivial⟩
        · intro w27 hE
          intro RR
          refine WL.indexP 0 Try.arr54 rfl rfl rfl (by decide) rfl rfl ?_
          exact WL.done ⟨_, rfl, rfl, rfl, (fun h => absurd h (by decide)), (fun j h => by cases h)⟩
        · intro w28 hE
          have hE := hE rfl
          have hS := hS.grow hE
          rintro _ rfl
          intro RR
          refine WL.load Try.underlying22 rfl rfl (Own.vcells (hS.own (i := 0) rfl) 0 _ rfl) rfl ?_
          exact WL.done ⟨_, rfl, ext_refl _, rfl, (fun h => absurd h (by decide)), (fun j h => by cases h)⟩
        · intro w29 hE
          intro RR
          refine WL.indexP 1 Try.arr54 rfl rfl rfl (by decide) rfl rfl ?_
          exact WL.done ⟨_, rfl, rfl, rfl, (fun h => absurd h (by decide)), (fun j h => by cases h)⟩
        · intro w30 hE
          have hE := hE rfl
          have hS := hS.grow hE
          rintro _ rfl
          intro RR
          refine WL.load Try.underlying22 rfl rfl (Own.vcells (hS.own (i := 0) rfl) 1 _ rfl) rfl ?_
          exact WL.done ⟨_, rfl, ext_refl _, rfl, (fun h => absurd h (by decide)), (fun j h => by cases h)⟩
        · intro w31 hE
          rintro _ rfl
          intro RR
          refine WL.assign rfl rfl ?_
          exact WL.done ⟨_, rfl, rfl, rfl, (fun h => absurd h (by decide)), (fun j h => by cases h)⟩
        · intro w32 hE
          rintro _ rfl
          intro RR
          refine WL.assign rfl rfl ?_
          exact WL.done ⟨_, rfl, rfl, rfl, (fun h => absurd h (by decide)), (fun j h => by cases h)⟩
      · intro vals w33 hT hVs hAp hCp
        have hS := hS.grow hT
        have hv0 : vals 0 = _ := hVs 0 (by decide)
        have hv1 : vals 1 = _ := hVs 1 (by decide)
        have hv2 : vals 2 = _ := hVs 2 (by decide)
        have hv3 : vals 3 = _ := hVs 3 (by decide)
        have hv4 : vals 4 = _ := hVs 4 (by decide)
        have hv5 : vals 5 = _ := hVs 5 (by decide)
        rw [show (List.filterMap (fun i => Option.map (fun t => (t, vals i)) (dstAt _ i)) (List.range _)) = [(16, .pointer (some ⟨g13, 0, none⟩)), (17, .slice Avv0 vv0.length kvv0), (18, .pointer (some ((⟨g13, 0, none⟩ : Addr).add 1))), (19, .slice Avv1 vv1.length kvv1), (8, .slice Avv0 vv0.length kvv0), (9, .slice Avv1 vv1.length kvv1)] from by
          show [(16, vals 0), (17, vals 1), (18, vals 2), (19, vals 3), (8, vals 4), (9, vals 5)] = _
          rw [hv0, hv1, hv2, hv3, hv4, hv5]]
        refine WA.done (by decide +kernel) ?_
        refine W.seq ?_
        refine W.seq ?_
        refine W.region ?_
        refine WL.move rfl rfl ?_
        refine WL.eqlPn Try.underlying26 rfl rfl rfl rfl ?_
        refine WL.move rfl rfl ?_
        refine WL.pass rfl rfl rfl ?_
        refine WL.pass rfl rfl rfl ?_
        refine WL.pass rfl rfl rfl ?_
        refine WL.pass rfl rfl rfl ?_
        refine WL.pass rfl rfl rfl ?_
        refine WL.pick rfl rfl rfl ?_
        refine WL.done ?_
        refine W.condT rfl ?_
        refine W.seq ?_
        refine W.region ?_
        refine WL.assign rfl rfl ?_
        refine WL.done ?_
        refine W.ret ?_
        refine ⟨_, rfl, Fin.nil ?_⟩
        exact ⟨_, hS.ext, (hS.pick [] rfl).rows, News.of (hS.pick [] rfl).rows rfl, ⟨true, rfl, rfl, hv⟩⟩
    | some F21 =>
      obtain ⟨ad22, lo23, hi24, rfl, rfl⟩ := hK
      change St _ _ _ _ [.ch lo23 hi24 (fun wz => GFX lo23 hi24 wz ad22 F21), .row 54 2 (some ⟨g13, 0, none⟩) 1 1 [.slice Avv0 vv0.length kvv0, .slice Avv1 vv1.length kvv1], .row 24 3 (some ⟨g11, 0, none⟩) 1 1 [.int .i64 Pf, .int .i64 Mf, .slice Af mf.length kf]] at hS
      refine WL.assign rfl rfl ?_
      refine WL.done ?_
      refine W.seq ?_
      have hS0 := hS
      refine W.drawX 6 (fun _ => false) (fun _ => none) [⟨[], [4], true⟩, ⟨[0], [], false⟩, ⟨[], [4], true⟩, ⟨[2], [], false⟩, ⟨[1], [], true⟩, ⟨[3], [], true⟩] [[(4, .pointer (some ⟨g13, 0, none⟩))], [], [(4, .pointer (some ⟨g13, 0, none⟩))], [], [], []] (fun iQ => [fun v _ => v = .pointer (some ⟨g13, 0, none⟩), fun v _ => v = .slice Avv0 vv0.length kvv0, fun v _ => v = .pointer (some ((⟨g13, 0, none⟩ : Addr).add 1)), fun v _ => v = .slice Avv1 vv1.length kvv1, fun v _ => v = .slice Avv0 vv0.length kvv0, fun v _ => v = .slice Avv1 vv1.length kvv1].getD iQ (fun _ _ => True)) Try.mixed (by kernel_rfl) ?_ (by kernel_rfl) ?_ ?_
      · refine Vs_monoT _ ?_
        intro VQ hVQ vQ wQ1 wQ2 hQ1 hQ2
        simp only [List.mem_cons, List.not_mem_nil, or_false] at hVQ
        rcases hVQ with rfl | rfl | rfl | rfl | rfl | rfl
        · exact hQ1
        · exact hQ1
        · exact hQ1
        · exact hQ1
        · exact hQ1
        · exact hQ1
      · refine ⟨⟨rfl, ⟨rfl, trivial⟩, ?_⟩, ⟨rfl, trivial, ?_⟩, ⟨rfl, ⟨rfl, trivial⟩, ?_⟩, ⟨rfl, trivial, ?_⟩, ⟨rfl, trivial, ?_⟩, ⟨rfl, trivial, ?_⟩, trivial⟩
        · intro w34 hE
          intro RR
          refine WL.indexP 0 Try.arr54 rfl rfl rfl (by decide) rfl rfl ?_
          exact WL.done ⟨_, rfl, rfl, rfl, (fun h => absurd h (by decide)), (fun j h => by cases h)⟩
        · intro w35 hE
          have hE := hE rfl
          have hS := hS.grow hE
          rintro _ rfl
          intro RR
          refine WL.load Try.underlying22 rfl rfl (Own.vcells (hS.own (i := 1) rfl) 0 _ rfl) rfl ?_
          exact WL.done ⟨_, rfl, ext_refl _, rfl, (fun h => absurd h (by decide)), (fun j h => by cases h)⟩
        · intro w36 hE
          intro RR
          refine WL.indexP 1 Try.arr54 rfl rfl rfl (by decide) rfl rfl ?_
          exact WL.done ⟨_, rfl, rfl, rfl, (fun h => absurd h (by decide)), (fun j h => by cases h)⟩
        · intro w37 hE
          have hE := hE rfl
          have hS := hS.grow hE
          rintro _ rfl
          intro RR
          refine WL.load Try.underlying22 rfl rfl (Own.vcells (hS.own (i := 1) rfl) 1 _ rfl) rfl ?_
          exact WL.done ⟨_, rfl, ext_refl _, rfl, (fun h => absurd h (by decide)), (fun j h => by cases h)⟩
        · intro w38 hE
          rintro _ rfl
          intro RR
          refine WL.assign rfl rfl ?_
          exact WL.done ⟨_, rfl, rfl, rfl, (fun h => absurd h (by decide)), (fun j h => by cases h)⟩
        · intro w39 hE
          rintro _ rfl
          intro RR
          refine WL.assign rfl rfl ?_
          exact WL.done ⟨_, rfl, rfl, rfl, (fun h => absurd h (by decide)), (fun j h => by cases h)⟩
      · intro vals w40 hT hVs hAp hCp
        have hS := hS.grow hT
        have hv0 : vals 0 = _ := hVs 0 (by decide)
        have hv1 : vals 1 = _ := hVs 1 (by decide)
        have hv2 : vals 2 = _ := hVs 2 (by decide)
        have hv3 : vals 3 = _ := hVs 3 (by decide)
        have hv4 : vals 4 = _ := hVs 4 (by decide)
        have hv5 : vals 5 = _ := hVs 5 (by decide)
        rw [show (List.filterMap (fun i => Option.map (fun t => (t, vals i)) (dstAt _ i)) (List.range _)) = [(16, .pointer (some ⟨g13, 0, none⟩)), (17, .slice Avv0 vv0.length kvv0), (18, .pointer (some ((⟨g13, 0, none⟩ : Addr).add 1))), (19, .slice Avv1 vv1.length kvv1), (8, .slice Avv0 vv0.length kvv0), (9, .slice Avv1 vv1.length kvv1)] from by
          show [(16, vals 0), (17, vals 1), (18, vals 2), (19, vals 3), (8, vals 4), (9, vals 5)] = _
          rw [hv0, hv1, hv2, hv3, hv4, hv5]]
        refine WA.done (by decide +kernel) ?_
        refine W.seq ?_
        refine W.seq ?_
        refine W.region ?_
        refine WL.move rfl rfl ?_
        refine WL.eqlPn Try.underlying26 rfl rfl rfl rfl ?_
        refine WL.move rfl rfl ?_
        refine WL.take rfl ?_
        refine WL.move rfl rfl ?_
        refine WL.take rfl ?_
        refine WL.move rfl rfl ?_
        refine WL.take rfl ?_
        refine SL.lit1 (vs := [.slice Avv0 vv0.length kvv0, .slice Avv1 vv1.length kvv1]) hS Try.underlying37 Try.el22 rfl rfl rfl rfl (by simp [Value.oneCell']) rfl ?_
        intro A41 w42 hS
        refine WL.take rfl ?_
        refine SL.call hS (ok_short (ls := ([vv0, vv1] : List (List Int))) ⟨_, _, (hS.rd (i := 0) rfl), ⟨⟨_, _, _, rfl, (Rd.is_m (hS.ro hvv0))⟩, ⟨_, _, _, rfl, (Rd.is_m (hS.ro hvv1))⟩, trivial⟩⟩ hv) Try.func26 rfl Try.nm26 rfl rfl ?_
        rintro _ _ w44 ⟨r45, rfl, rfl, hv⟩ hGw44 hS
        change St _ _ _ _ [.row 22 1 A41 2 2 [.slice Avv0 vv0.length kvv0, .slice Avv1 vv1.length kvv1], .ch lo23 hi24 (fun wz => GFX lo23 hi24 wz ad22 F21), .row 54 2 (some ⟨g13, 0, none⟩) 1 1 [.slice Avv0 vv0.length kvv0, .slice Avv1 vv1.length kvv1], .row 24 3 (some ⟨g11, 0, none⟩) 1 1 [.int .i64 Pf, .int .i64 Mf, .slice Af mf.length kf]] at hS
        refine WL.take rfl ?_
        refine WL.not rfl rfl ?_
        refine WL.pick rfl rfl rfl ?_
        refine WL.done ?_
        refine W.cond2 rfl (fun c46 => ?_) (fun c46 => ?_)
        · have hv := hv.1 (c46)
          refine W.seq ?_
          refine W.region ?_
          refine WL.assign rfl rfl ?_
          refine WL.done ?_
          refine W.ret ?_
          refine ⟨_, rfl, Fin.nil ?_⟩
          exact ⟨_, hS.ext, (hS.pick [] rfl).rows, News.of (hS.pick [] rfl).rows rfl, ⟨true, rfl, rfl, hv⟩⟩
        · have hv := hv.2 (c46)
          refine W.skip ?_
          refine W.seq ?_
          refine W.region ?_
          refine WL.move rfl rfl ?_
          refine WL.move rfl rfl ?_
          refine WL.move rfl rfl ?_
          refine SL.call hS (ok_eval (GFX.gfr (hS.chunk (i := 1) rfl)) (hS.ro hvv0) hv) Try.func44 rfl Try.nm44 rfl rfl ?_
          rintro _ _ w47 ⟨r48, rfl, rfl, hv⟩ hGw47 hS
          change St _ _ _ _ [.row 22 1 A41 2 2 [.slice Avv0 vv0.length kvv0, .slice Avv1 vv1.length kvv1], .ch lo23 hi24 (fun wz => GFX lo23 hi24 wz ad22 F21), .row 54 2 (some ⟨g13, 0, none⟩) 1 1 [.slice Avv0 vv0.length kvv0, .slice Avv1 vv1.length kvv1], .row 24 3 (some ⟨g11, 0, none⟩) 1 1 [.int .i64 Pf, .int .i64 Mf, .slice Af mf.length kf]] at hS
          refine WL.move rfl rfl ?_
          refine WL.move rfl rfl ?_
          refine WL.move rfl rfl ?_
          refine SL.call hS (ok_eval (GFX.gfr (hS.chunk (i := 1) rfl)) (hS.ro hvv1) hv) Try.func44 rfl Try.nm44 rfl rfl ?_
          rintro _ _ w49 ⟨r50, rfl, rfl, hv⟩ hGw49 hS
          change St _ _ _ _ [.row 22 1 A41 2 2 [.slice Avv0 vv0.length kvv0, .slice Avv1 vv1.length kvv1], .ch lo23 hi24 (fun wz => GFX lo23 hi24 wz ad22 F21), .row 54 2 (some ⟨g13, 0, none⟩) 1 1 [.slice Avv0 vv0.length kvv0, .slice Avv1 vv1.length kvv1], .row 24 3 (some ⟨g11, 0, none⟩) 1 1 [.int .i64 Pf, .int .i64 Mf, .slice Af mf.length kf]] at hS
          refine WL.assign rfl rfl ?_
          refine WL.assign rfl rfl ?_
          refine WL.done ?_
          refine W.seq ?_
          refine W.seq ?_
          refine W.region ?_
          refine WL.move rfl rfl ?_
          refine WL.loadV (cs := [.int .i64 Pf, .int .i64 Mf, .slice Af mf.length kf]) Try.el24 Try.agg24 rfl rfl (Own.vcells (hS.own (i := 3) rfl)) rfl ?_
          refine WL.move rfl rfl ?_
          refine WL.move rfl rfl ?_
          refine SL.call hS (ok_reval (hS.ro hf) (hS.ro hvv0) hv) Try.func45 rfl Try.nm45 rfl rfl ?_
          rintro _ _ w51 ⟨r52, rfl, rfl, hv⟩ hGw51 hS
          change St _ _ _ _ [.row 22 1 A41 2 2 [.slice Avv0 vv0.length kvv0, .slice Avv1 vv1.length kvv1], .ch lo23 hi24 (fun wz => GFX lo23 hi24 wz ad22 F21), .row 54 2 (some ⟨g13, 0, none⟩) 1 1 [.slice Avv0 vv0.length kvv0, .slice Avv1 vv1.length kvv1], .row 24 3 (some ⟨g11, 0, none⟩) 1 1 [.int .i64 Pf, .int .i64 Mf, .slice Af mf.length kf]] at hS
          refine WL.neqD rfl rfl rfl ?_
          refine WL.move rfl rfl ?_
          by_cases g53 : r48 ≠ r52
          · have hv := hv.1 g53
            rw [decide_eq_true g53]
            refine WL.pass rfl rfl rfl ?_
            refine WL.pass rfl rfl rfl ?_
            refine WL.pass rfl rfl rfl ?_
            refine WL.pass rfl rfl rfl ?_
            refine WL.pass rfl rfl rfl ?_
            refine WL.pass rfl rfl rfl ?_
            refine WL.pick rfl rfl rfl ?_
            refine WL.done ?_
            refine W.condT rfl ?_
            refine W.seq ?_
            refine W.region ?_
            refine WL.assign rfl rfl ?_
            refine WL.done ?_
            refine W.ret ?_
            refine ⟨_, rfl, Fin.nil ?_⟩
            exact ⟨_, hS.ext, (hS.pick [] rfl).rows, News.of (hS.pick [] rfl).rows rfl, ⟨false, rfl, rfl, hv⟩⟩
          · have hv := hv.2 g53
            rw [decide_eq_false g53]
            refine WL.take rfl ?_
            refine WL.move rfl rfl ?_
            refine WL.take rfl ?_
            refine WL.loadV (cs := [.int .i64 Pf, .int .i64 Mf, .slice Af mf.length kf]) Try.el24 Try.agg24 rfl rfl (Own.vcells (hS.own (i := 3) rfl)) rfl ?_
            refine WL.take rfl ?_
            refine WL.move rfl rfl ?_
            refine WL.take rfl ?_
            refine WL.move rfl rfl ?_
            refine WL.take rfl ?_
            refine SL.call hS (ok_reval (hS.ro hf) (hS.ro hvv1) hv) Try.func45 rfl Try.nm45 rfl rfl ?_
            rintro _ _ w54 ⟨r55, rfl, rfl, hv⟩ hGw54 hS
            change St _ _ _ _ [.row 22 1 A41 2 2 [.slice Avv0 vv0.length kvv0, .slice Avv1 vv1.length kvv1], .ch lo23 hi24 (fun wz => GFX lo23 hi24 wz ad22 F21), .row 54 2 (some ⟨g13, 0, none⟩) 1 1 [.slice Avv0 vv0.length kvv0, .slice Avv1 vv1.length kvv1], .row 24 3 (some ⟨g11, 0, none⟩) 1 1 [.int .i64 Pf, .int .i64 Mf, .slice Af mf.length kf]] at hS
            refine WL.take rfl ?_
            refine WL.neqD rfl rfl rfl ?_
            refine WL.pick rfl rfl rfl ?_
            refine WL.done ?_
            refine W.cond2 rfl (fun c56 => ?_) (fun c56 => ?_)
            · have hv := hv.1 (of_decide_eq_true c56)
              refine W.seq ?_
              refine W.region ?_
              refine WL.assign rfl rfl ?_
              refine WL.done ?_
              refine W.ret ?_
              refine ⟨_, rfl, Fin.nil ?_⟩
              exact ⟨_, hS.ext, (hS.pick [] rfl).rows, News.of (hS.pick [] rfl).rows rfl, ⟨false, rfl, rfl, hv⟩⟩
            · have hv := hv.2 (of_decide_eq_false c56)
              refine W.skip ?_
              refine W.seq ?_
              obtain ⟨x62, o69, hv⟩ := hv
              obtain ⟨r72, o74, hv⟩ := hv
              obtain ⟨r79, o81, hv⟩ := hv
              obtain ⟨o83, hv⟩ := hv
              obtain ⟨x97, o104, hv⟩ := hv
              obtain ⟨r107, o109, hv⟩ := hv
              obtain ⟨r114, o116, hv⟩ := hv
              have hS0 := hS
              refine W.drawX 28 (fun iA => [false, false, false, false, true, false, false, false, false, false, false, false, false, false, false, false, false, true, true, false, false, false, false, false, false, false, false, false].getD iA false) (fun _ => none) [⟨[], [7], true⟩, ⟨[], [7], true⟩, ⟨[], [8], true⟩, ⟨[], [9], true⟩, ⟨[1, 2, 3], [], false⟩, ⟨[], [2], true⟩, ⟨[0, 4, 5], [], false⟩, ⟨[], [3], false⟩, ⟨[], [10], true⟩, ⟨[], [11], true⟩, ⟨[7, 8, 9], [], false⟩, ⟨[6, 10], [], true⟩, ⟨[11], [], true⟩, ⟨[12], [7], true⟩, ⟨[12], [7], true⟩, ⟨[12], [8], true⟩, ⟨[12], [9], true⟩, ⟨[12, 15, 16], [], false⟩, ⟨[12, 14, 17], [], false⟩, ⟨[12], [2], true⟩, ⟨[12, 13, 18, 19], [], false⟩, ⟨[12], [3], false⟩, ⟨[12], [10], true⟩, ⟨[12], [11], true⟩, ⟨[12, 21, 22, 23], [], false⟩, ⟨[12, 20, 24], [], true⟩, ⟨[12, 25], [], true⟩, ⟨[26], [], true⟩] [[(7, .pointer (some ad22))], [(7, .pointer (some ad22))], [(8, .slice Avv0 vv0.length kvv0)], [(9, .slice Avv1 vv1.length kvv1)], [], [(2, .int .i64 x)], [], [(3, .pointer (some ⟨g11, 0, none⟩))], [(10, .int .i64 r48)], [(11, .int .i64 r50)], [], [], [], [(7, .pointer (some ad22))], [(7, .pointer (some ad22))], [(8, .slice Avv0 vv0.length kvv0)], [(9, .slice Avv1 vv1.length kvv1)], [], [], [(2, .int .i64 x)], [], [(3, .pointer (some ⟨g11, 0, none⟩))], [(10, .int .i64 r48)], [(11, .int .i64 r50)], [], [], [], []] (fun iQ => [fun v _ => v = .pointer (some ad22), fun v _ => v = .pointer (some ad22), fun v _ => v = .slice Avv0 vv0.length kvv0, fun v _ => v = .slice Avv1 vv1.length kvv1, fun v wQ => ∃ A63_4 k64_4, v = .slice A63_4 x62.length k64_4 ∧ Own 0 wQ 3 1 A63_4 x62.length k64_4 (is x62) ∧ (∀ g, bl A63_4 = some g → w54.heap.size ≤ g), fun v _ => v = .int .i64 x, fun v _ => v = .int .i64 r72, fun v _ => v = .agg #[.int .i64 Pf, .int .i64 Mf, .slice Af mf.length kf], fun v _ => v = .int .i64 r48, fun v _ => v = .int .i64 r50, fun v _ => v = .int .i64 r79, fun v _ => v = .bool true, fun v _ => v = .bool true, fun v _ => v = .pointer (some ad22), fun v _ => v = .pointer (some ad22), fun v _ => v = .slice Avv0 vv0.length kvv0, fun v _ => v = .slice Avv1 vv1.length kvv1, fun v wQ => ∃ A90_17 k93_17, v = .slice A90_17 2 k93_17 ∧ Own 0 wQ 22 1 A90_17 2 k93_17 [.slice Avv0 vv0.length kvv0, .slice Avv1 vv1.length kvv1] ∧ (∀ g, bl A90_17 = some g → w54.heap.size ≤ g), fun v wQ => ∃ A98_18 k99_18, v = .slice A98_18 x97.length k99_18 ∧ Own 0 wQ 3 1 A98_18 x97.length k99_18 (is x97) ∧ (∀ g, bl A98_18 = some g → w54.heap.size ≤ g), fun v _ => v = .int .i64 x, fun v _ => v = .int .i64 r107, fun v _ => v = .agg #[.int .i64 Pf, .int .i64 Mf, .slice Af mf.length kf], fun v _ => v = .int .i64 r48, fun v _ => v = .int .i64 r50, fun v _ => v = .int .i64 r114, fun v _ => v = .bool (decide (r107 = r114)), fun v _ => v = .bool (decide (r107 = r114)), fun v _ => v = .bool (decide (r107 = r114))].getD iQ (fun _ _ => True)) Try.mixed (by kernel_rfl) ?_ (by kernel_rfl) ?_ ?_
              · refine Vs_monoT _ ?_
                intro VQ hVQ vQ wQ1 wQ2 hQ1 hQ2
                simp only [List.mem_cons, List.not_mem_nil, or_false] at hVQ
                rcases hVQ with rfl | rfl | rfl | rfl | rfl | rfl | rfl | rfl | rfl | rfl | rfl | rfl | rfl | rfl | rfl | rfl | rfl | rfl | rfl | rfl | rfl | rfl | rfl | rfl | rfl | rfl | rfl | rfl
                · exact hQ1
                · exact hQ1
                · exact hQ1
                · exact hQ1
                · obtain ⟨A63_4, k64_4, hQe, hO67_4, hN68_4⟩ := hQ1
                  exact ⟨A63_4, k64_4, hQe, hO67_4.ext hQ2, hN68_4⟩
                · exact hQ1
                · exact hQ1
                · exact hQ1
                · exact hQ1
                · exact hQ1
                · exact hQ1
                · exact hQ1
                · exact hQ1
                · exact hQ1
                · exact hQ1
                · exact hQ1
                · exact hQ1
                · obtain ⟨A90_17, k93_17, hQe, hO94_17, hN95_17⟩ := hQ1
                  exact ⟨A90_17, k93_17, hQe, hO94_17.ext hQ2, hN95_17⟩
                · obtain ⟨A98_18, k99_18, hQe, hO102_18, hN103_18⟩ := hQ1
                  exact ⟨A98_18, k99_18, hQe, hO102_18.ext hQ2, hN103_18⟩
                · exact hQ1
                · exact hQ1
                · exact hQ1
                · exact hQ1
                · exact hQ1
                · exact hQ1
                · exact hQ1
                · exact hQ1
                · exact hQ1
              · refine ⟨⟨rfl, ⟨rfl, trivial⟩, ?_⟩, ⟨rfl, ⟨rfl, trivial⟩, ?_⟩, ⟨rfl, ⟨rfl, trivial⟩, ?_⟩, ⟨rfl, ⟨rfl, trivial⟩, ?_⟩, ⟨rfl, trivial, ?_⟩, ⟨rfl, ⟨rfl, trivial⟩, ?_⟩, ⟨rfl, trivial, ?_⟩, ⟨rfl, ⟨rfl, trivial⟩, ?_⟩, ⟨rfl, ⟨rfl, trivial⟩, ?_⟩, ⟨rfl, ⟨rfl, trivial⟩, ?_⟩, ⟨rfl, trivial, ?_⟩, ⟨rfl, trivial, ?_⟩, ⟨rfl, trivial, ?_⟩, ⟨rfl, ⟨rfl, trivial⟩, ?_⟩, ⟨rfl, ⟨rfl, trivial⟩, ?_⟩, ⟨rfl, ⟨rfl, trivial⟩, ?_⟩, ⟨rfl, ⟨rfl, trivial⟩, ?_⟩, ⟨rfl, trivial, ?_⟩, ⟨rfl, trivial, ?_⟩, ⟨rfl, ⟨rfl, trivial⟩, ?_⟩, ⟨rfl, trivial, ?_⟩, ⟨rfl, ⟨rfl, trivial⟩, ?_⟩, ⟨rfl, ⟨rfl, trivial⟩, ?_⟩, ⟨rfl, ⟨rfl, trivial⟩, ?_⟩, ⟨rfl, trivial, ?_⟩, ⟨rfl, trivial, ?_⟩, ⟨rfl, trivial, ?_⟩, ⟨rfl, trivial, ?_⟩, trivial⟩
                · intro w57 hE
                  intro RR
                  refine WL.move rfl rfl ?_
                  exact WL.done ⟨_, rfl, rfl, rfl, (fun h => absurd h (by decide)), (fun j h => by cases h)⟩
                · intro w58 hE
                  intro RR
                  refine WL.move rfl rfl ?_
                  exact WL.done ⟨_, rfl, rfl, rfl, (fun h => absurd h (by decide)), (fun j h => by cases h)⟩
                · intro w59 hE
                  intro RR
                  refine WL.move rfl rfl ?_
                  exact WL.done ⟨_, rfl, rfl, rfl, (fun h => absurd h (by decide)), (fun j h => by cases h)⟩
                · intro w60 hE
                  intro RR
                  refine WL.move rfl rfl ?_
                  exact WL.done ⟨_, rfl, rfl, rfl, (fun h => absurd h (by decide)), (fun j h => by cases h)⟩
                · intro w61 hE
                  have hE := hE rfl
                  have hS := hS.grow hE
                  rintro _ rfl
                  rintro _ rfl
                  rintro _ rfl
                  intro RR
                  refine WL.call Try.func27 rfl Try.nm27 rfl rfl (calls_un (ok_padd (GFX.gfr (hS.chunk (i := 1) rfl)) (hS.ro hvv0) (hS.ro hvv1) o69)) ?_
                  rintro _ w66 ⟨_, hGw66, hRww66, hNww66, x62q, A63, k64, rfl, rfl, he⟩
                  subst he
                  have hO67 := (hRww66.get (i := 0) rfl).1
                  have hN68 : ∀ g, bl A63 = some g → _ ≤ g := fun g hg => Nat.le_trans hE.size (hNww66.1 g hg)
                  exact WL.done ⟨_, rfl, hGw66, ⟨A63, k64, rfl, hO67, hN68⟩, (fun _ => fun g hg => ⟨hNww66.1 g hg, (hO67.bl_ge g hg).2⟩), (fun j h => by cases h)⟩
                · intro w70 hE
                  intro RR
                  refine WL.move rfl rfl ?_
                  exact WL.done ⟨_, rfl, rfl, rfl, (fun h => absurd h (by decide)), (fun j h => by cases h)⟩
                · intro w71 hE
                  have hE := hE rfl
                  have hS := hS.grow hE
                  rintro _ rfl
                  rintro _ ⟨A63_4, k64_4, rfl, hO67_4, hN68_4⟩
                  rintro _ rfl
                  intro RR
                  refine WL.call Try.func44 rfl Try.nm44 rfl rfl (calls_un (ok_eval (GFX.gfr (hS.chunk (i := 1) rfl)) hO67_4.rd o74)) ?_
                  rintro _ w73 ⟨_, hGw73, hRww73, hNww73, r72q, rfl, rfl, he⟩
                  subst he
                  exact WL.done ⟨_, rfl, hGw73, rfl, (fun h => absurd h (by decide)), (fun j h => by cases h)⟩
                · intro w75 hE
                  have hE := hE rfl
                  have hS := hS.grow hE
                  intro RR
                  refine WL.loadV (cs := [.int .i64 Pf, .int .i64 Mf, .slice Af mf.length kf]) Try.el24 Try.agg24 rfl rfl (Own.vcells (hS.own (i := 3) rfl)) rfl ?_
                  exact WL.done ⟨_, rfl, ext_refl _, rfl, (fun h => absurd h (by decide)), (fun j h => by cases h)⟩
                · intro w76 hE
                  intro RR
                  refine WL.move rfl rfl ?_
                  exact WL.done ⟨_, rfl, rfl, rfl, (fun h => absurd h (by decide)), (fun j h => by cases h)⟩
                · intro w77 hE
                  intro RR
                  refine WL.move rfl rfl ?_
                  exact WL.done ⟨_, rfl, rfl, rfl, (fun h => absurd h (by decide)), (fun j h => by cases h)⟩
                · intro w78 hE
                  have hE := hE rfl
                  have hS := hS.grow hE
                  rintro _ rfl
                  rintro _ rfl
                  rintro _ rfl
                  intro RR
                  refine WL.call Try.func46 rfl Try.nm46 rfl rfl (calls_un (ok_rAdd (hS.ro hf) o81)) ?_
                  rintro _ w80 ⟨_, hGw80, hRww80, hNww80, r79q, rfl, rfl, he⟩
                  subst he
                  exact WL.done ⟨_, rfl, hGw80, rfl, (fun h => absurd h (by decide)), (fun j h => by cases h)⟩
                · intro w82 hE
                  rintro _ rfl
                  rintro _ rfl
                  intro RR
                  refine WL.eqlD rfl rfl rfl ?_; rw [decide_eq_true o83]
                  exact WL.done ⟨_, rfl, rfl, rfl, (fun h => absurd h (by decide)), (fun j h => by cases h)⟩
                · intro w84 hE
                  rintro _ rfl
                  intro RR
                  refine WL.move rfl rfl ?_
                  exact WL.done ⟨_, rfl, rfl, rfl, (fun h => absurd h (by decide)), (fun j h => by cases h)⟩
                · intro w85 hE
                  rintro _ rfl
                  intro RR
                  refine WL.take rfl ?_
                  refine WL.move rfl rfl ?_
                  exact WL.done ⟨_, rfl, rfl, rfl, (fun h => absurd h (by decide)), (fun j h => by cases h)⟩
                · intro w86 hE
                  rintro _ rfl
                  intro RR
                  refine WL.take rfl ?_
                  refine WL.move rfl rfl ?_
                  exact WL.done ⟨_, rfl, rfl, rfl, (fun h => absurd h (by decide)), (fun j h => by cases h)⟩
                · intro w87 hE
                  rintro _ rfl
                  intro RR
                  refine WL.take rfl ?_
                  refine WL.move rfl rfl ?_
                  exact WL.done ⟨_, rfl, rfl, rfl, (fun h => absurd h (by decide)), (fun j h => by cases h)⟩
                · intro w88 hE
                  rintro _ rfl
                  intro RR
                  refine WL.take rfl ?_
                  refine WL.move rfl rfl ?_
                  exact WL.done ⟨_, rfl, rfl, rfl, (fun h => absurd h (by decide)), (fun j h => by cases h)⟩
                · intro w89 hE
                  have hE := hE rfl
                  have hS := hS.grow hE
                  rintro _ rfl
                  rintro _ rfl
                  rintro _ rfl
                  intro RR
                  refine WL.take rfl ?_
                  refine SL.litL (vs := [.slice Avv0 vv0.length kvv0, .slice Avv1 vv1.length kvv1]) Try.underlying37 Try.el22 rfl rfl rfl rfl (by simp [Value.oneCell']) rfl ?_
                  intro A90 k93 w91 hO94 hN95g hGw91
                  have hN95 : ∀ g, bl A90 = some g → _ ≤ g := fun g hg => Nat.le_trans hE.size (hN95g g hg)
                  exact WL.done ⟨_, rfl, hGw91, ⟨A90, k93, rfl, hO94, hN95⟩, (fun _ => fun g hg => ⟨hN95g g hg, (hO94.bl_ge g hg).2⟩), (fun j h => by cases h)⟩
                · intro w96 hE
                  have hE := hE rfl
                  have hS := hS.grow hE
                  rintro _ rfl
                  rintro _ rfl
                  rintro _ ⟨A90_17, k93_17, rfl, hO94_17, hN95_17⟩
                  intro RR
                  refine WL.take rfl ?_
                  refine WL.call Try.func32 rfl Try.nm32 rfl rfl (calls_un (ok_pmul (GFX.gfr (hS.chunk (i := 1) rfl)) (fs := ([vv0, vv1] : List (List Int))) ⟨_, _, hO94_17.rd, ⟨⟨_, _, _, rfl, (Rd.is_m (hS.ro hvv0))⟩, ⟨_, _, _, rfl, (Rd.is_m (hS.ro hvv1))⟩, trivial⟩⟩ o104)) ?_
                  rintro _ w101 ⟨_, hGw101, hRww101, hNww101, x97q, A98, k99, rfl, rfl, he⟩
                  subst he
                  have hO102 := (hRww101.get (i := 0) rfl).1
                  have hN103 : ∀ g, bl A98 = some g → _ ≤ g := fun g hg => Nat.le_trans hE.size (hNww101.1 g hg)
                  exact WL.done ⟨_, rfl, hGw101, ⟨A98, k99, rfl, hO102, hN103⟩, (fun _ => fun g hg => ⟨hNww101.1 g hg, (hO102.bl_ge g hg).2⟩), (fun j h => by cases h)⟩
                · intro w105 hE
                  rintro _ rfl
                  intro RR
                  refine WL.take rfl ?_
                  refine WL.move rfl rfl ?_
                  exact WL.done ⟨_, rfl, rfl, rfl, (fun h => absurd h (by decide)), (fun j h => by cases h)⟩
                · intro w106 hE
                  have hE := hE rfl
                  have hS := hS.grow hE
                  rintro _ rfl
                  rintro _ rfl
                  rintro _ ⟨A98_18, k99_18, rfl, hO102_18, hN103_18⟩
                  rintro _ rfl
                  intro RR
                  refine WL.take rfl ?_
                  refine WL.call Try.func44 rfl Try.nm44 rfl rfl (calls_un (ok_eval (GFX.gfr (hS.chunk (i := 1) rfl)) hO102_18.rd o109)) ?_
                  rintro _ w108 ⟨_, hGw108, hRww108, hNww108, r107q, rfl, rfl, he⟩
                  subst he
                  exact WL.done ⟨_, rfl, hGw108, rfl, (fun h => absurd h (by decide)), (fun j h => by cases h)⟩
                · intro w110 hE
                  have hE := hE rfl
                  have hS := hS.grow hE
                  rintro _ rfl
                  intro RR
                  refine WL.take rfl ?_
                  refine WL.loadV (cs := [.int .i64 Pf, .int .i64 Mf, .slice Af mf.length kf]) Try.el24 Try.agg24 rfl rfl (Own.vcells (hS.own (i := 3) rfl)) rfl ?_
                  exact WL.done ⟨_, rfl, ext_refl _, rfl, (fun h => absurd h (by decide)), (fun j h => by cases h)⟩
                · intro w111 hE
                  rintro _ rfl
                  intro RR
                  refine WL.take rfl ?_
                  refine WL.move rfl rfl ?_
                  exact WL.done ⟨_, rfl, rfl, rfl, (fun h => absurd h (by decide)), (fun j h => by cases h)⟩
                · intro w112 hE
                  rintro _ rfl
                  intro RR
                  refine WL.take rfl ?_
                  refine WL.move rfl rfl ?_
                  exact WL.done ⟨_, rfl, rfl, rfl, (fun h => absurd h (by decide)), (fun j h => by cases h)⟩
                · intro w113 hE
                  have hE := hE rfl
                  have hS := hS.grow hE
                  rintro _ rfl
                  rintro _ rfl
                  rintro _ rfl
                  rintro _ rfl
                  intro RR
                  refine WL.take rfl ?_
                  refine WL.call Try.func47 rfl Try.nm47 rfl rfl (calls_un (ok_rMul (hS.ro hf) o116)) ?_
                  rintro _ w115 ⟨_, hGw115, hRww115, hNww115, r114q, rfl, rfl, he⟩
                  subst he
                  exact WL.done ⟨_, rfl, hGw115, rfl, (fun h => absurd h (by decide)), (fun j h => by cases h)⟩
                · intro w117 hE
                  rintro _ rfl
                  rintro _ rfl
                  rintro _ rfl
                  intro RR
                  refine WL.take rfl ?_
                  refine WL.eqlD rfl rfl rfl ?_
                  exact WL.done ⟨_, rfl, rfl, rfl, (fun h => absurd h (by decide)), (fun j h => by cases h)⟩
                · intro w118 hE
                  rintro _ rfl
                  rintro _ rfl
                  intro RR
                  refine WL.pick rfl rfl rfl ?_
                  exact WL.done ⟨_, rfl, rfl, rfl, (fun h => absurd h (by decide)), (fun j h => by cases h)⟩
                · intro w119 hE
                  rintro _ rfl
                  intro RR
                  refine WL.assign rfl rfl ?_
                  exact WL.done ⟨_, rfl, rfl, rfl, (fun h => absurd h (by decide)), (fun j h => by cases h)⟩
              · intro vals w120 hT hVs hAp hCp
                have hS := hS.grow hT
                have hv0 : vals 0 = _ := hVs 0 (by decide)
                have hv1 : vals 1 = _ := hVs 1 (by decide)
                have hv2 : vals 2 = _ := hVs 2 (by decide)
                have hv3 : vals 3 = _ := hVs 3 (by decide)
                obtain ⟨A63_4, k64_4, hv4, hO67_4, hN68_4⟩ := hVs 4 (by decide)
                have hv5 : vals 5 = _ := hVs 5 (by decide)
                have hv6 : vals 6 = _ := hVs 6 (by decide)
                have hv7 : vals 7 = _ := hVs 7 (by decide)
                have hv8 : vals 8 = _ := hVs 8 (by decide)
                have hv9 : vals 9 = _ := hVs 9 (by decide)
                have hv10 : vals 10 = _ := hVs 10 (by decide)
                have hv11 : vals 11 = _ := hVs 11 (by decide)
                have hv12 : vals 12 = _ := hVs 12 (by decide)
                have hv13 : vals 13 = _ := hVs 13 (by decide)
                have hv14 : vals 14 = _ := hVs 14 (by decide)
                have hv15 : vals 15 = _ := hVs 15 (by decide)
                have hv16 : vals 16 = _ := hVs 16 (by decide)
                obtain ⟨A90_17, k93_17, hv17, hO94_17, hN95_17⟩ := hVs 17 (by decide)
                obtain ⟨A98_18, k99_18, hv18, hO102_18, hN103_18⟩ := hVs 18 (by decide)
                have hv19 : vals 19 = _ := hVs 19 (by decide)
                have hv20 : vals 20 = _ := hVs 20 (by decide)
                have hv21 : vals 21 = _ := hVs 21 (by decide)
                have hv22 : vals 22 = _ := hVs 22 (by decide)
                have hv23 : vals 23 = _ := hVs 23 (by decide)
                have hv24 : vals 24 = _ := hVs 24 (by decide)
                have hv25 : vals 25 = _ := hVs 25 (by decide)
                have hv26 : vals 26 = _ := hVs 26 (by decide)
                have hv27 : vals 27 = _ := hVs 27 (by decide)
                rw [show (List.filterMap (fun i => Option.map (fun t => (t, vals i)) (dstAt _ i)) (List.range _)) = [(51, .pointer (some ad22)), (52, .pointer (some ad22)), (53, .slice Avv0 vv0.length kvv0), (54, .slice Avv1 vv1.length kvv1), (55, .slice A63_4 x62.length k64_4), (56, .int .i64 x), (57, .int .i64 r72), (58, .agg #[.int .i64 Pf, .int .i64 Mf, .slice Af mf.length kf]), (59, .int .i64 r48), (60, .int .i64 r50), (61, .int .i64 r79), (62, .bool true), (63, .bool true), (64, .pointer (some ad22)), (65, .pointer (some ad22)), (66, .slice Avv0 vv0.length kvv0), (67, .slice Avv1 vv1.length kvv1), (68, .slice A90_17 2 k93_17), (69, .slice A98_18 x97.length k99_18), (70, .int .i64 x), (71, .int .i64 r107), (72, .agg #[.int .i64 Pf, .int .i64 Mf, .slice Af mf.length kf]), (73, .int .i64 r48), (74, .int .i64 r50), (75, .int .i64 r114), (76, .bool (decide (r107 = r114))), (77, .bool (decide (r107 = r114))), (6, .bool (decide (r107 = r114)))] from by
                  show [(51, vals 0), (52, vals 1), (53, vals 2), (54, vals 3), (55, vals 4), (56, vals 5), (57, vals 6), (58, vals 7), (59, vals 8), (60, vals 9), (61, vals 10), (62, vals 11), (63, vals 12), (64, vals 13), (65, vals 14), (66, vals 15), (67, vals 16), (68, vals 17), (69, vals 18), (70, vals 19), (71, vals 20), (72, vals 21), (73, vals 22), (74, vals 23), (75, vals 24), (76, vals 25), (77, vals 26), (6, vals 27)] = _
                  rw [hv0, hv1, hv2, hv3, hv4, hv5, hv6, hv7, hv8, hv9, hv10, hv11, hv12, hv13, hv14, hv15, hv16, hv17, hv18, hv19, hv20, hv21, hv22, hv23, hv24, hv25, hv26, hv27]]
                refine WA.done (by decide +kernel) ?_
                refine W.ret ?_
                refine ⟨_, rfl, Fin.nil ?_⟩
                exact ⟨_, hS.ext, (hS.pick [] rfl).rows, News.of (hS.pick [] rfl).rows rfl, ⟨(decide (r107 = r114)), rfl, rfl, hv⟩⟩

end Go.Proofs.Ytmdigamgojfjdaa
set_option linter.unusedVariables false
set_option linter.unusedSimpArgs false
namespace Go.Proofs.Ytmdigamgojfjdaa
open Ks
section
variable {k : Ks} {F : GFv} {P M : Int} {mf : List Int}
theorem law_PolyValues (p t : List Int) (x : Int) : V_PolyValues P M mf p t x (fun b => b = true) := by
  refine w_alive ⟨fun h => absurd h (by decide), fun _ => w_made (fun _ => rfl) fun F k K hF => w_short2 rfl fun hp ht => ?_⟩
  refine w_eval K (w_eval K (w_reval hF (by omega) ⟨fun h => absurd rfl h, fun _ => w_reval hF (by omega) ⟨fun h => absurd rfl h, fun _ => ⟨_, w_padd K (by omega) (by omega) rfl, _, w_eval K rfl, _, w_rAdd hF rfl, ?_, _, w_pmul2 K (by omega) (by omega) rfl, _, w_eval K rfl, _, w_rMul hF rfl, decide_eq_true ?_⟩⟩⟩))
  · rw [pol_L ((pol_fs p).add (pol_fs t)), vl_add (pol_fs p) (pol_fs t), el_co, el_co]
  · rw [pol_L ((pol_fs p).mul (pol_fs t)), vl_mul (pol_fs p) (pol_fs t), el_co, el_co]
end
end Go.Proofs.Ytmdigamgojfjdaa
