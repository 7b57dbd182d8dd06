/- What only this law leans on. -/
import Derived.Test.YtmdigamgojfjdaaPolyAddsG12
set_option linter.unusedSimpArgs false
set_option linter.unusedVariables false
namespace Go.Proofs.Ytmdigamgojfjdaa
open Go.RowKit
def V_PolyDivides (Pf : Int) (Mf : Int) (mf : List Int) (p : List Int) (t : List Int) (Q : Bool → Prop) : Prop :=
  V_alive  (fun r14 => (((!r14) = true) → Q false) ∧ ((!r14) = false → (V_made Pf Mf mf (fun q => match q with | none => Q true | some F19 => V_short ([p, t] : List (List Int)) (fun r29 => (((!r29) = true) → Q true) ∧ ((!r29) = false → (V_pdivmod F19 p t (fun q => match q with | (x32, x36, r40) => V_rdeg Pf Mf mf t (fun r42 => ((r42 < (0 : Int)) → (((r40 = (7 : Int)) → (((((x32.length : Nat) : Int) = (0 : Int)) → (Q (decide (((x36.length : Nat) : Int) = (0 : Int))))) ∧ (¬ (((x32.length : Nat) : Int) = (0 : Int)) → Q false))) ∧ (¬ (r40 = (7 : Int)) → Q false))) ∧ (¬ (r42 < (0 : Int)) → (∃ (x51 : List Int), V_rpmul Pf Mf mf x32 t (fun q => q = x51) ∧ (∃ (x61 : List Int), V_rpadd Pf Mf mf x51 x36 (fun q => q = x61) ∧ (((r40 = (0 : Int)) → (((((x36.length : Nat) : Int) ≤ r42) → (V_rcanon Pf Mf mf p (fun x75 => V_lsame x61 x75 (fun r80 => ((r80 = true) → (V_rcanon Pf Mf mf x32 (fun x83 => V_lsame x32 x83 (fun r88 => ((r88 = true) → (V_rcanon Pf Mf mf x36 (fun x91 => V_lsame x36 x91 (fun r96 => Q r96)))) ∧ (r88 = false → Q false))))) ∧ (r80 = false → Q false))))) ∧ (¬ (((x36.length : Nat) : Int) ≤ r42) → Q false))) ∧ (¬ (r40 = (0 : Int)) → Q false))))))))))))))
theorem ok_PolyDivides {w : World} {Q : Bool → Prop} {Pf : Int} {Mf : Int} {mf : List Int} {p : List Int} {t : List Int} {Bf : Nat} {Af : Option Addr} {nf kf : Nat} (hf : Rd Bf w 1 Af nf kf (is mf)) {Bp : Nat} {Ap : Option Addr} {np kp : Nat} (hp : Rd Bp w 1 Ap np kp (is p)) {Bt : Nat} {At : Option Addr} {nt kt : Nat} (ht : Rd Bt w 1 At nt kt (is t)) (hv : V_PolyDivides Pf Mf mf p t Q) :
    Calls Try.prog 8 #[.agg #[.int .i64 Pf, .int .i64 Mf, .slice Af nf kf], .slice Ap np kp, .slice At nt kt] w fun e w' => ∃ v Qr, e = .returned v ∧ w.grownBy w' none ∧ Rows w.heap.size none w' Qr ∧ News w.heap.size Qr ∧ ∃ (r0 : Bool), v = .bool r0 ∧ Qr = [] ∧ Q r0 := by
  have hnf := hf.ilen
  subst hnf
  have hnp := hp.ilen
  subst hnp
  have hnt := ht.ilen
  subst hnt
  refine calls_swap ?_
  refine calls_of_W (vs := [.agg #[.int .i64 Pf, .int .i64 Mf, .slice Af mf.length kf], .slice Ap p.length kp, .slice At t.length kt]) [6] Try.func8 rfl rfl rfl rfl ?_
  have hS := St.start w
  unfold V_PolyDivides at hv
  refine W.seq ?_
  refine W.region ?_
  refine SL.box (z := 3) (cs := [.int .i64 Pf, .int .i64 Mf, .slice Af mf.length kf]) hS rfl rfl rfl rfl ?_
  intro g11 w12 hS
  refine WL.assign rfl rfl ?_
  refine WL.done ?_
  refine W.seq ?_
  refine W.seq ?_
  refine W.region ?_
  refine SL.call hS (ok_alive  hv) Try.func20 rfl Try.nm20 rfl rfl ?_
  rintro _ _ w13 ⟨r14, rfl, rfl, hv⟩ hGw13 hS
  change St _ _ _ _ [.row 24 3 (some ⟨g11, 0, none⟩) 1 1 [.int .i64 Pf, .int .i64 Mf, .slice Af mf.length kf]] at hS
  refine WL.not rfl rfl ?_
  refine WL.done ?_
  refine W.cond2 rfl (fun c15 => ?_) (fun c15 => ?_)
  · have hv := hv.1 (c15)
    refine W.seq ?_
    refine W.region ?_
    refine WL.assign rfl rfl ?_
    refine WL.done ?_
    refine W.ret ?_
    refine ⟨_, rfl, Fin.nil ?_⟩
    exact ⟨_, hS.ext, (hS.pick [] rfl).rows, News.of (hS.pick [] rfl).rows rfl, ⟨false, rfl, rfl, hv⟩⟩
  · have hv := hv.2 (c15)
    refine W.skip ?_
    refine W.seq ?_
    refine W.region ?_
    refine WL.loadV (cs := [.int .i64 Pf, .int .i64 Mf, .slice Af mf.length kf]) Try.el24 Try.agg24 rfl rfl (Own.vcells (hS.own (i := 0) rfl)) rfl ?_
    refine SL.call hS (ok_made (hS.ro hf) hv) Try.func21 rfl Try.nm21 rfl rfl ?_
    rintro _ _ w17 ⟨o, hv, hK⟩ hGw17 hS
    cases o with
    | none =>
      obtain ⟨rfl, rfl⟩ := hK
      change St _ _ _ _ [.row 24 3 (some ⟨g11, 0, none⟩) 1 1 [.int .i64 Pf, .int .i64 Mf, .slice Af mf.length kf]] at hS
      refine WL.assign rfl rfl ?_
      refine WL.done ?_
      refine W.seq ?_
      refine W.seq ?_
      refine W.region ?_
      refine WL.move rfl rfl ?_
      refine WL.eqlPn Try.underlying26 rfl rfl rfl rfl ?_
      refine WL.move rfl rfl ?_
      refine WL.pass rfl rfl rfl ?_
      refine WL.pass rfl rfl rfl ?_
      refine WL.pass rfl rfl rfl ?_
      refine WL.pass rfl rfl rfl ?_
      refine WL.pass rfl rfl rfl ?_
      refine WL.pick rfl rfl rfl ?_
      refine WL.done ?_
      refine W.condT rfl ?_
      refine W.seq ?_
      refine W.region ?_
      refine WL.assign rfl rfl ?_
      refine WL.done ?_
      refine W.ret ?_
      refine ⟨_, rfl, Fin.nil ?_⟩
      exact ⟨_, hS.ext, (hS.pick [] rfl).rows, News.of (hS.pick [] rfl).rows rfl, ⟨true, rfl, rfl, hv⟩⟩
    | some F19 =>
      obtain ⟨ad20, lo21, hi22, rfl, rfl⟩ := hK
      change St _ _ _ _ [.ch lo21 hi22 (fun wz => GFX lo21 hi22 wz ad20 F19), .row 24 3 (some ⟨g11, 0, none⟩) 1 1 [.int .i64 Pf, .int .i64 Mf, .slice Af mf.length kf]] at hS
      refine WL.assign rfl rfl ?_
      refine WL.done ?_
      refine W.seq ?_
      refine W.seq ?_
      refine W.region ?_
      refine WL.move rfl rfl ?_
      refine WL.eqlPn Try.underlying26 rfl rfl rfl rfl ?_
      refine WL.move rfl rfl ?_
      refine WL.take rfl ?_
      refine WL.move rfl rfl ?_
      refine WL.take rfl ?_
      refine WL.move rfl rfl ?_
      refine WL.take rfl ?_
      refine SL.lit1 (vs := [.slice Ap p.length kp, .slice At t.length kt]) hS Try.underlying37 Try.el22 rfl rfl rfl rfl (by simp [Value.oneCell']) rfl ?_
      intro A25 w26 hS
      refine WL.take rfl ?_
      refine SL.call hS (ok_short (ls := ([p, t] : List (List Int))) ⟨_, _, (hS.rd (i := 0) rfl), ⟨⟨_, _, _, rfl, (Rd.is_m (hS.ro hp))⟩, ⟨_, _, _, rfl, (Rd.is_m (hS.ro ht))⟩, trivial⟩⟩ hv) Try.func26 rfl Try.nm26 rfl rfl ?_
      rintro _ _ w28 ⟨r29, rfl, rfl, hv⟩ hGw28 hS
      change St _ _ _ _ [.row 22 1 A25 2 2 [.slice Ap p.length kp, .slice At t.length kt], .ch lo21 hi22 (fun wz => GFX lo21 hi22 wz ad20 F19), .row 24 3 (some ⟨g11, 0, none⟩) 1 1 [.int .i64 Pf, .int .i64 Mf, .slice Af mf.length kf]] at hS
      refine WL.take rfl ?_
      refine WL.not rfl rfl ?_
      refine WL.pick rfl rfl rfl ?_
      refine WL.done ?_
      refine W.cond2 rfl (fun c30 => ?_) (fun c30 => ?_)
      · have hv := hv.1 (c30)
        refine W.seq ?_
        refine W.region ?_
        refine WL.assign rfl rfl ?_
        refine WL.done ?_
        refine W.ret ?_
        refine ⟨_, rfl, Fin.nil ?_⟩
        exact ⟨_, hS.ext, (hS.pick [] rfl).rows, News.of (hS.pick [] rfl).rows rfl, ⟨true, rfl, rfl, hv⟩⟩
      · have hv := hv.2 (c30)
        refine W.skip ?_
        refine W.seq ?_
        refine W.region ?_
        refine WL.move rfl rfl ?_
        refine WL.move rfl rfl ?_
        refine WL.move rfl rfl ?_
        refine SL.call hS (ok_pdivmod (GFX.gfr (hS.chunk (i := 1) rfl)) (hS.ro hp) (hS.ro ht) hv) Try.func37 rfl Try.nm37 rfl rfl ?_
        rintro _ _ w31 ⟨x32, x36, r40, A33, k34, A37, k38, rfl, rfl, hv⟩ hGw31 hS
        change St _ _ _ _ [.row 3 1 A33 x32.length k34 (is x32), .row 3 1 A37 x36.length k38 (is x36), .row 22 1 A25 2 2 [.slice Ap p.length kp, .slice At t.length kt], .ch lo21 hi22 (fun wz => GFX lo21 hi22 wz ad20 F19), .row 24 3 (some ⟨g11, 0, none⟩) 1 1 [.int .i64 Pf, .int .i64 Mf, .slice Af mf.length kf]] at hS
        refine WL.move rfl rfl ?_
        refine WL.extract rfl rfl rfl ?_
        refine WL.extract rfl rfl rfl ?_
        refine WL.extract rfl rfl rfl ?_
        refine WL.assign rfl rfl ?_
        refine WL.assign rfl rfl ?_
        refine WL.assign rfl rfl ?_
        refine WL.done ?_
        refine W.seq ?_
        refine W.region ?_
        refine WL.loadV (cs := [.int .i64 Pf, .int .i64 Mf, .slice Af mf.length kf]) Try.el24 Try.agg24 rfl rfl (Own.vcells (hS.own (i := 4) rfl)) rfl ?_
        refine WL.move rfl rfl ?_
        refine SL.call hS (ok_rdeg (hS.ro hf) (hS.ro ht) hv) Try.func38 rfl Try.nm38 rfl rfl ?_
        rintro _ _ w41 ⟨r42, rfl, rfl, hv⟩ hGw41 hS
        change St _ _ _ _ [.row 3 1 A33 x32.length k34 (is x32), .row 3 1 A37 x36.length k38 (is x36), .row 22 1 A25 2 2 [.slice Ap p.length kp, .slice At t.length kt], .ch lo21 hi22 (fun wz => GFX lo21 hi22 wz ad20 F19), .row 24 3 (some ⟨g11, 0, none⟩) 1 1 [.int .i64 Pf, .int .i64 Mf, .slice Af mf.length kf]] at hS
        refine WL.assign rfl rfl ?_
        refine WL.done ?_
        refine W.seq ?_
        refine W.seq ?_
        refine W.region ?_
        refine WL.move rfl rfl ?_
        refine WL.lssD rfl rfl rfl ?_
        refine WL.done ?_
        refine W.cond2 rfl (fun c43 => ?_) (fun c43 => ?_)
        · have hv := hv.1 (of_decide_eq_true c43)
          refine W.seq ?_
          refine W.region ?_
          refine WL.move rfl rfl ?_
          refine WL.eqlD rfl rfl rfl ?_
          refine WL.move rfl rfl ?_
          by_cases g44 : r40 = (7 : Int)
          · have hv := hv.1 g44
            rw [decide_eq_true g44]
            refine WL.take rfl ?_
            refine WL.move rfl rfl ?_
            refine WL.take rfl ?_
            refine WL.len Try.underlying22 rfl rfl ?_
            refine WL.take rfl ?_
            refine WL.eqlD rfl rfl rfl ?_
            refine WL.pick rfl rfl rfl ?_
            refine WL.move rfl rfl ?_
            by_cases g45 : ((x32.length : Nat) : Int) = (0 : Int)
            · have hv := hv.1 g45
              rw [decide_eq_true g45]
              refine WL.take rfl ?_
              refine WL.move rfl rfl ?_
              refine WL.take rfl ?_
              refine WL.len Try.underlying22 rfl rfl ?_
              refine WL.take rfl ?_
              refine WL.eqlD rfl rfl rfl ?_
              refine WL.pick rfl rfl rfl ?_
              refine WL.assign rfl rfl ?_
              refine WL.done ?_
              refine W.ret ?_
              refine ⟨_, rfl, Fin.nil ?_⟩
              exact ⟨_, hS.ext, (hS.pick [] rfl).rows, News.of (hS.pick [] rfl).rows rfl, ⟨(decide (((x36.length : Nat) : Int) = (0 : Int))), rfl, rfl, hv⟩⟩
            · have hv := hv.2 g45
              rw [decide_eq_false g45]
              refine WL.pass rfl rfl rfl ?_
              refine WL.pass rfl rfl rfl ?_
              refine WL.pass rfl rfl rfl ?_
              refine WL.pick rfl rfl rfl ?_
              refine WL.assign rfl rfl ?_
              refine WL.done ?_
              refine W.ret ?_
              refine ⟨_, rfl, Fin.nil ?_⟩
              exact ⟨_, hS.ext, (hS.pick [] rfl).rows, News.of (hS.pick [] rfl).rows rfl, ⟨false, rfl, rfl, hv⟩⟩
          · have hv := hv.2 g44
            rw [decide_eq_false g44]
            refine WL.pass rfl rfl rfl ?_
            refine WL.pass rfl rfl rfl ?_
            refine WL.pass rfl rfl rfl ?_
            refine WL.pick rfl rfl rfl ?_
            refine WL.move rfl rfl ?_
            refine WL.pass rfl rfl rfl ?_
            refine WL.pass rfl rfl rfl ?_
            refine WL.pass rfl rfl rfl ?_
            refine WL.pick rfl rfl rfl ?_
            refine WL.assign rfl rfl ?_
            refine WL.done ?_
            refine W.ret ?_
            refine ⟨_, rfl, Fin.nil ?_⟩
            exact ⟨_, hS.ext, (hS.pick [] rfl).rows, News.of (hS.pick [] rfl).rows rfl, ⟨false, rfl, rfl, hv⟩⟩
        · have hv := hv.2 (of_decide_eq_false c43)
          refine W.skip ?_
          refine W.seq ?_
          obtain ⟨x51, o58, hv⟩ := hv
          obtain ⟨x61, o68, hv⟩ := hv
          have hS0 := hS
          refine W.drawX 8 (fun iA => [false, false, false, false, true, false, true, false].getD iA false) (fun iC => match iC with | 7 => some 6 | _ => none) [⟨[], [3], false⟩, ⟨[], [3], false⟩, ⟨[], [8], true⟩, ⟨[], [2], true⟩, ⟨[1, 2, 3], [], false⟩, ⟨[], [9], true⟩, ⟨[0, 4, 5], [], false⟩, ⟨[6], [], true⟩] [[(3, .pointer (some ⟨g11, 0, none⟩))], [(3, .pointer (some ⟨g11, 0, none⟩))], [(8, .slice A33 x32.length k34)], [(2, .slice At t.length kt)], [], [(9, .slice A37 x36.length k38)], [], []] (fun iQ => [fun v _ => v = .agg #[.int .i64 Pf, .int .i64 Mf, .slice Af mf.length kf], fun v _ => v = .agg #[.int .i64 Pf, .int .i64 Mf, .slice Af mf.length kf], fun v _ => v = .slice A33 x32.length k34, fun v _ => v = .slice At t.length kt, fun v wQ => ∃ A52_4 k53_4, v = .slice A52_4 x51.length k53_4 ∧ Own 0 wQ 3 1 A52_4 x51.length k53_4 (is x51) ∧ (∀ g, bl A52_4 = some g → w41.heap.size ≤ g), fun v _ => v = .slice A37 x36.length k38, fun v wQ => ∃ A62_6 k63_6, v = .slice A62_6 x61.length k63_6 ∧ Own 0 wQ 3 1 A62_6 x61.length k63_6 (is x61) ∧ (∀ g, bl A62_6 = some g → w41.heap.size ≤ g), fun v wQ => ∃ A62_6_7 k63_6_7, v = .slice A62_6_7 x61.length k63_6_7 ∧ Own 0 wQ 3 1 A62_6_7 x61.length k63_6_7 (is x61) ∧ (∀ g, bl A62_6_7 = some g → w41.heap.size ≤ g)].getD iQ (fun _ _ => True)) Try.mixed (by kernel_rfl) ?_ (by kernel_rfl) ?_ ?_
          · refine Vs_monoT _ ?_
            intro VQ hVQ vQ wQ1 wQ2 hQ1 hQ2
            simp only [List.mem_cons, List.not_mem_nil, or_false] at hVQ
            rcases hVQ with rfl | rfl | rfl | rfl | rfl | rfl | rfl | rfl
            · exact hQ1
            · exact hQ1
            · exact hQ1
            · exact hQ1
            · obtain ⟨A52_4, k53_4, hQe, hO56_4, hN57_4⟩ := hQ1
              exact ⟨A52_4, k53_4, hQe, hO56_4.ext hQ2, hN57_4⟩
            · exact hQ1
            · obtain ⟨A62_6, k63_6, hQe, hO66_6, hN67_6⟩ := hQ1
              exact ⟨A62_6, k63_6, hQe, hO66_6.ext hQ2, hN67_6⟩
            · obtain ⟨A62_6_7, k63_6_7, hQe, hO66_6_7, hN67_6_7⟩ := hQ1
              exact ⟨A62_6_7, k63_6_7, hQe, hO66_6_7.ext hQ2, hN67_6_7⟩
          · refine ⟨⟨rfl, ⟨rfl, trivial⟩, ?_⟩, ⟨rfl, ⟨rfl, trivial⟩, ?_⟩, ⟨rfl, ⟨rfl, trivial⟩, ?_⟩, ⟨rfl, ⟨rfl, trivial⟩, ?_⟩, ⟨rfl, trivial, ?_⟩, ⟨rfl, ⟨rfl, trivial⟩, ?_⟩, ⟨rfl, trivial, ?_⟩, ⟨rfl, trivial, ?_⟩, trivial⟩
            · intro w46 hE
              have hE := hE rfl
              have hS := hS.grow hE
              intro RR
              refine WL.loadV (cs := [.int .i64 Pf, .int .i64 Mf, .slice Af mf.length kf]) Try.el24 Try.agg24 rfl rfl (Own.vcells (hS.own (i := 4) rfl)) rfl ?_
              exact WL.done ⟨_, rfl, ext_refl _, rfl, (fun h => absurd h (by decide)), (fun j h => by cases h)⟩
            · intro w47 hE
              have hE := hE rfl
              have hS := hS.grow hE
              intro RR
              refine WL.loadV (cs := [.int .i64 Pf, .int .i64 Mf, .slice Af mf.length kf]) Try.el24 Try.agg24 rfl rfl (Own.vcells (hS.own (i := 4) rfl)) rfl ?_
              exact WL.done ⟨_, rfl, ext_refl _, rfl, (fun h => absurd h (by decide)), (fun j h => by cases h)⟩
            · intro w48 hE
              intro RR
              refine WL.move rfl rfl ?_
              exact WL.done ⟨_, rfl, rfl, rfl, (fun h => absurd h (by decide)), (fun j h => by cases h)⟩
            · intro w49 hE
              intro RR
              refine WL.move rfl rfl ?_
              exact WL.done ⟨_, rfl, rfl, rfl, (fun h => absurd h (by decide)), (fun j h => by cases h)⟩
            · intro w50 hE
              have hE := hE rfl
              have hS := hS.grow hE
              rintro _ rfl
              rintro _ rfl
              rintro _ rfl
              intro RR
              refine WL.call Try.func31 rfl Try.nm31 rfl rfl (calls_un (ok_rpmul (hS.ro hf) (hS.rd (i := 0) rfl) (hS.ro ht) o58)) ?_
              rintro _ w55 ⟨_, hGw55, hRww55, hNww55, x51q, A52, k53, rfl, rfl, he⟩
              subst he
              have hO56 := (hRww55.get (i := 0) rfl).1
              have hN57 : ∀ g, bl A52 = some g → _ ≤ g := fun g hg => Nat.le_trans hE.size (hNww55.1 g hg)
              exact WL.done ⟨_, rfl, hGw55, ⟨A52, k53, rfl, hO56, hN57⟩, (fun _ => fun g hg => ⟨hNww55.1 g hg, (hO56.bl_ge g hg).2⟩), (fun j h => by cases h)⟩
            · intro w59 hE
              intro RR
              refine WL.move rfl rfl ?_
              exact WL.done ⟨_, rfl, rfl, rfl, (fun h => absurd h (by decide)), (fun j h => by cases h)⟩
            · intro w60 hE
              have hE := hE rfl
              have hS := hS.grow hE
              rintro _ rfl
              rintro _ ⟨A52_4, k53_4, rfl, hO56_4, hN57_4⟩
              rintro _ rfl
              intro RR
              refine WL.call Try.func28 rfl Try.nm28 rfl rfl (calls_un (ok_rpadd (hS.ro hf) hO56_4.rd (hS.rd (i := 1) rfl) o68)) ?_
              rintro _ w65 ⟨_, hGw65, hRww65, hNww65, x61q, A62, k63, rfl, rfl, he⟩
              subst he
              have hO66 := (hRww65.get (i := 0) rfl).1
              have hN67 : ∀ g, bl A62 = some g → _ ≤ g := fun g hg => Nat.le_trans hE.size (hNww65.1 g hg)
              exact WL.done ⟨_, rfl, hGw65, ⟨A62, k63, rfl, hO66, hN67⟩, (fun _ => fun g hg => ⟨hNww65.1 g hg, (hO66.bl_ge g hg).2⟩), (fun j h => by cases h)⟩
            · intro w69 hE
              rintro _ ⟨A62_6, k63_6, rfl, hO66_6, hN67_6⟩
              intro RR
              refine WL.assign rfl rfl ?_
              exact WL.done ⟨_, rfl, rfl, ⟨A62_6, k63_6, rfl, hO66_6, hN67_6⟩, (fun h => absurd h (by decide)), (fun j h => by cases h; rfl)⟩
          · intro vals w70 hT hVs hAp hCp
            have hS := hS.grow hT
            have hv0 : vals 0 = _ := hVs 0 (by decide)
            have hv1 : vals 1 = _ := hVs 1 (by decide)
            have hv2 : vals 2 = _ := hVs 2 (by decide)
            have hv3 : vals 3 = _ := hVs 3 (by decide)
            obtain ⟨A52_4, k53_4, hv4, hO56_4, hN57_4⟩ := hVs 4 (by decide)
            have hv5 : vals 5 = _ := hVs 5 (by decide)
            obtain ⟨A62_6, k63_6, hv6, hO66_6, hN67_6⟩ := hVs 6 (by decide)
            have hv7 : vals 7 = .slice A62_6 x61.length k63_6 := (hCp 7 6 (by decide) rfl).trans hv6
            have hS := St.addOwn [] hS0 hS hO66_6 hN67_6 (fun s hs => by cases hs)
            change St _ _ _ _ [.row 3 1 A62_6 x61.length k63_6 (is x61), .row 3 1 A33 x32.length k34 (is x32), .row 3 1 A37 x36.length k38 (is x36), .row 22 1 A25 2 2 [.slice Ap p.length kp, .slice At t.length kt], .ch lo21 hi22 (fun wz => GFX lo21 hi22 wz ad20 F19), .row 24 3 (some ⟨g11, 0, none⟩) 1 1 [.int .i64 Pf, .int .i64 Mf, .slice Af mf.length kf]] at hS
            rw [show (List.filterMap (fun i => Option.map (fun t => (t, vals i)) (dstAt _ i)) (List.range _)) = [(51, .agg #[.int .i64 Pf, .int .i64 Mf, .slice Af mf.length kf]), (52, .agg #[.int .i64 Pf, .int .i64 Mf, .slice Af mf.length kf]), (53, .slice A33 x32.length k34), (54, .slice At t.length kt), (55, .slice A52_4 x51.length k53_4), (56, .slice A37 x36.length k38), (57, .slice A62_6 x61.length k63_6), (12, .slice A62_6 x61.length k63_6)] from by
              show [(51, vals 0), (52, vals 1), (53, vals 2), (54, vals 3), (55, vals 4), (56, vals 5), (57, vals 6), (12, vals 7)] = _
              rw [hv0, hv1, hv2, hv3, hv4, hv5, hv6, hv7]]
            refine WA.done (by decide +kernel) ?_
            refine W.seq ?_
            refine W.region ?_
            refine WL.move rfl rfl ?_
            refine WL.eqlD rfl rfl rfl ?_
            refine WL.move rfl rfl ?_
            by_cases g72 : r40 = (0 : Int)
            · have hv := hv.1 g72
              rw [decide_eq_true g72]
              refine WL.take rfl ?_
              refine WL.move rfl rfl ?_
              refine WL.take rfl ?_
              refine WL.len Try.underlying22 rfl rfl ?_
              refine WL.take rfl ?_
              refine WL.move rfl rfl ?_
              refine WL.take rfl ?_
              refine WL.leqD rfl rfl rfl ?_
              refine WL.pick rfl rfl rfl ?_
              refine WL.move rfl rfl ?_
              by_cases g73 : ((x36.length : Nat) : Int) ≤ r42
              · have hv := hv.1 g73
                rw [decide_eq_true g73]
                refine WL.take rfl ?_
                refine WL.move rfl rfl ?_
                refine WL.take rfl ?_
                refine WL.loadV (cs := [.int .i64 Pf, .int .i64 Mf, .slice Af mf.length kf]) Try.el24 Try.agg24 rfl rfl (Own.vcells (hS.own (i := 5) rfl)) rfl ?_
                refine WL.take rfl ?_
                refine WL.move rfl rfl ?_
                refine WL.take rfl ?_
                refine SL.call hS (ok_rcanon (hS.ro hf) (hS.ro hp) hv) Try.func24 rfl Try.nm24 rfl rfl ?_
                rintro _ _ w74 ⟨x75, A76, k77, rfl, rfl, hv⟩ hGw74 hS
                change St _ _ _ _ [.row 3 1 A76 x75.length k77 (is x75), .row 3 1 A62_6 x61.length k63_6 (is x61), .row 3 1 A33 x32.length k34 (is x32), .row 3 1 A37 x36.length k38 (is x36), .row 22 1 A25 2 2 [.slice Ap p.length kp, .slice At t.length kt], .ch lo21 hi22 (fun wz => GFX lo21 hi22 wz ad20 F19), .row 24 3 (some ⟨g11, 0, none⟩) 1 1 [.int .i64 Pf, .int .i64 Mf, .slice Af mf.length kf]] at hS
                refine WL.take rfl ?_
                refine SL.call hS (ok_lsame (hS.rd (i := 1) rfl) (hS.rd (i := 0) rfl) hv) Try.func23 rfl Try.nm23 rfl rfl ?_
                rintro _ _ w79 ⟨r80, rfl, rfl, hv⟩ hGw79 hS
                change St _ _ _ _ [.row 3 1 A76 x75.length k77 (is x75), .row 3 1 A62_6 x61.length k63_6 (is x61), .row 3 1 A33 x32.length k34 (is x32), .row 3 1 A37 x36.length k38 (is x36), .row 22 1 A25 2 2 [.slice Ap p.length kp, .slice At t.length kt], .ch lo21 hi22 (fun wz => GFX lo21 hi22 wz ad20 F19), .row 24 3 (some ⟨g11, 0, none⟩) 1 1 [.int .i64 Pf, .int .i64 Mf, .slice Af mf.length kf]] at hS
                refine WL.pick rfl rfl rfl ?_
                refine WL.move rfl rfl ?_
                cases g81 : r80
                · have hv := hv.2 g81
                  refine WL.pass rfl rfl rfl ?_
                  refine WL.pass rfl rfl rfl ?_
                  refine WL.pass rfl rfl rfl ?_
                  refine WL.pass rfl rfl rfl ?_
                  refine WL.pass rfl rfl rfl ?_
                  refine WL.pick rfl rfl rfl ?_
                  refine WL.move rfl rfl ?_
                  refine WL.pass rfl rfl rfl ?_
                  refine WL.pass rfl rfl rfl ?_
                  refine WL.pass rfl rfl rfl ?_
                  refine WL.pass rfl rfl rfl ?_
                  refine WL.pass rfl rfl rfl ?_
                  refine WL.pick rfl rfl rfl ?_
                  refine WL.assign rfl rfl ?_
                  refine WL.done ?_
                  refine W.ret ?_
                  refine ⟨_, rfl, Fin.nil ?_⟩
                  exact ⟨_, hS.ext, (hS.pick [] rfl).rows, News.of (hS.pick [] rfl).rows rfl, ⟨false, rfl, rfl, hv⟩⟩
                · have hv := hv.1 g81
                  refine WL.take rfl ?_
                  refine WL.move rfl rfl ?_
                  refine WL.take rfl ?_
                  refine WL.loadV (cs := [.int .i64 Pf, .int .i64 Mf, .slice Af mf.length kf]) Try.el24 Try.agg24 rfl rfl (Own.vcells (hS.own (i := 6) rfl)) rfl ?_
                  refine WL.take rfl ?_
                  refine WL.move rfl rfl ?_
                  refine WL.take rfl ?_
                  refine SL.call hS (ok_rcanon (hS.ro hf) (hS.rd (i := 2) rfl) hv) Try.func24 rfl Try.nm24 rfl rfl ?_
                  rintro _ _ w82 ⟨x83, A84, k85, rfl, rfl, hv⟩ hGw82 hS
                  change St _ _ _ _ [.row 3 1 A84 x83.length k85 (is x83), .row 3 1 A76 x75.length k77 (is x75), .row 3 1 A62_6 x61.length k63_6 (is x61), .row 3 1 A33 x32.length k34 (is x32), .row 3 1 A37 x36.length k38 (is x36), .row 22 1 A25 2 2 [.slice Ap p.length kp, .slice At t.length kt], .ch lo21 hi22 (fun wz => GFX lo21 hi22 wz ad20 F19), .row 24 3 (some ⟨g11, 0, none⟩) 1 1 [.int .i64 Pf, .int .i64 Mf, .slice Af mf.length kf]] at hS
                  refine WL.take rfl ?_
                  refine SL.call hS (ok_lsame (hS.rd (i := 3) rfl) (hS.rd (i := 0) rfl) hv) Try.func23 rfl Try.nm23 rfl rfl ?_
                  rintro _ _ w87 ⟨r88, rfl, rfl, hv⟩ hGw87 hS
                  change St _ _ _ _ [.row 3 1 A84 x83.length k85 (is x83), .row 3 1 A76 x75.length k77 (is x75), .row 3 1 A62_6 x61.length k63_6 (is x61), .row 3 1 A33 x32.length k34 (is x32), .row 3 1 A37 x36.length k38 (is x36), .row 22 1 A25 2 2 [.slice Ap p.length kp, .slice At t.length kt], .ch lo21 hi22 (fun wz => GFX lo21 hi22 wz ad20 F19), .row 24 3 (some ⟨g11, 0, none⟩) 1 1 [.int .i64 Pf, .int .i64 Mf, .slice Af mf.length kf]] at hS
                  refine WL.pick rfl rfl rfl ?_
                  refine WL.move rfl rfl ?_
                  cases g89 : r88
                  · have hv := hv.2 g89
                    refine WL.pass rfl rfl rfl ?_
                    refine WL.pass rfl rfl rfl ?_
                    refine WL.pass rfl rfl rfl ?_
                    refine WL.pass rfl rfl rfl ?_
                    refine WL.pass rfl rfl rfl ?_
                    refine WL.pick rfl rfl rfl ?_
                    refine WL.assign rfl rfl ?_
                    refine WL.done ?_
                    refine W.ret ?_
                    refine ⟨_, rfl, Fin.nil ?_⟩
                    exact ⟨_, hS.ext, (hS.pick [] rfl).rows, News.of (hS.pick [] rfl).rows rfl, ⟨false, rfl, rfl, hv⟩⟩
                  · have hv := hv.1 g89
                    refine WL.take rfl ?_
                    refine WL.move rfl rfl ?_
                    refine WL.take rfl ?_
                    refine WL.loadV (cs := [.int .i64 Pf, .int .i64 Mf, .slice Af mf.length kf]) Try.el24 Try.agg24 rfl rfl (Own.vcells (hS.own (i := 7) rfl)) rfl ?_
                    refine WL.take rfl ?_
                    refine WL.move rfl rfl ?_
                    refine WL.take rfl ?_
                    refine SL.call hS (ok_rcanon (hS.ro hf) (hS.rd (i := 4) rfl) hv) Try.func24 rfl Try.nm24 rfl rfl ?_
                    rintro _ _ w90 ⟨x91, A92, k93, rfl, rfl, hv⟩ hGw90 hS
                    change St _ _ _ _ [.row 3 1 A92 x91.length k93 (is x91), .row 3 1 A84 x83.length k85 (is x83), .row 3 1 A76 x75.length k77 (is x75), .row 3 1 A62_6 x61.length k63_6 (is x61), .row 3 1 A33 x32.length k34 (is x32), .row 3 1 A37 x36.length k38 (is x36), .row 22 1 A25 2 2 [.slice Ap p.length kp, .slice At t.length kt], .ch lo21 hi22 (fun wz => GFX lo21 hi22 wz ad20 F19), .row 24 3 (some ⟨g11, 0, none⟩) 1 1 [.int .i64 Pf, .int .i64 Mf, .slice Af mf.length kf]] at hS
                    refine WL.take rfl ?_
                    refine SL.call hS (ok_lsame (hS.rd (i := 5) rfl) (hS.rd (i := 0) rfl) hv) Try.func23 rfl Try.nm23 rfl rfl ?_
                    rintro _ _ w95 ⟨r96, rfl, rfl, hv⟩ hGw95 hS
                    change St _ _ _ _ [.row 3 1 A92 x91.length k93 (is x91), .row 3 1 A84 x83.length k85 (is x83), .row 3 1 A76 x75.length k77 (is x75), .row 3 1 A62_6 x61.length k63_6 (is x61), .row 3 1 A33 x32.length k34 (is x32), .row 3 1 A37 x36.length k38 (is x36), .row 22 1 A25 2 2 [.slice Ap p.length kp, .slice At t.length kt], .ch lo21 hi22 (fun wz => GFX lo21 hi22 wz ad20 F19), .row 24 3 (some ⟨g11, 0, none⟩) 1 1 [.int .i64 Pf, .int .i64 Mf, .slice Af mf.length kf]] at hS
                    refine WL.pick rfl rfl rfl ?_
                    refine WL.assign rfl rfl ?_
                    refine WL.done ?_
                    refine W.ret ?_
                    refine ⟨_, rfl, Fin.nil ?_⟩
                    exact ⟨_, hS.ext, (hS.pick [] rfl).rows, News.of (hS.pick [] rfl).rows rfl, ⟨r96, rfl, rfl, hv⟩⟩
              · have hv := hv.2 g73
                rw [decide_eq_false g73]
                refine WL.pass rfl rfl rfl ?_
                refine WL.pass rfl rfl rfl ?_
                refine WL.pass rfl rfl rfl ?_
                refine WL.pass rfl rfl rfl ?_
                refine WL.pass rfl rfl rfl ?_
                refine WL.pick rfl rfl rfl ?_
                refine WL.move rfl rfl ?_
                refine WL.pass rfl rfl rfl ?_
                refine WL.pass rfl rfl rfl ?_
                refine WL.pass rfl rfl rfl ?_
                refine WL.pass rfl rfl rfl ?_
                refine WL.pass rfl rfl rfl ?_
                refine WL.pick rfl rfl rfl ?_
                refine WL.move rfl rfl ?_
                refine WL.pass rfl rfl rfl ?_
                refine WL.pass rfl rfl rfl ?_
                refine WL.pass rfl rfl rfl ?_
                refine WL.pass rfl rfl rfl ?_
                refine WL.pass rfl rfl rfl ?_
                refine WL.pick rfl rfl rfl ?_
                refine WL.assign rfl rfl ?_
                refine WL.done ?_
                refine W.ret ?_
                refine ⟨_, rfl, Fin.nil ?_⟩
                exact ⟨_, hS.ext, (hS.pick [] rfl).rows, News.of (hS.pick [] rfl).rows rfl, ⟨false, rfl, rfl, hv⟩⟩
            · have hv := hv.2 g72
              rw [decide_eq_false g72]
              refine WL.pass rfl rfl rfl ?_
              refine WL.pass rfl rfl rfl ?_
              refine WL.pass rfl rfl rfl ?_
              refine WL.pass rfl rfl rfl ?_
              refine WL.pick rfl rfl rfl ?_
              refine WL.move rfl rfl ?_
              refine WL.pass rfl rfl rfl ?_
              refine WL.pass rfl rfl rfl ?_
              refine WL.pass rfl rfl rfl ?_
              refine WL.pass rfl rfl rfl ?_
              refine WL.pass rfl rfl rfl ?_
              refine WL.pick rfl rfl rfl ?_
              refine WL.move rfl rfl ?_
              refine WL.pass rfl rfl rfl ?_
              refine WL.pass rfl rfl rfl ?_
              refine WL.pass rfl rfl rfl ?_
              refine WL.pass rfl rfl rfl ?_
              refine WL.pass rfl rfl rfl ?_
              refine WL.pick rfl rfl rfl ?_
              refine WL.move rfl rfl ?_
              refine WL.pass rfl rfl rfl ?_
              refine WL.pass rfl rfl rfl ?_
              refine WL.pass rfl rfl rfl ?_
              refine WL.pass rfl rfl rfl ?_
              refine WL.pass rfl rfl rfl ?_
              refine WL.pick rfl rfl rfl ?_
              refine WL.assign rfl rfl ?_
              refine WL.done ?_
              refine W.ret ?_
              refine ⟨_, rfl, Fin.nil ?_⟩
              exact ⟨_, hS.ext, (hS.pick [] rfl).rows, News.of (hS.pick [] rfl).rows rfl, ⟨false, rfl, rfl, hv⟩⟩

end Go.Proofs.Ytmdigamgojfjdaa
set_option linter.unusedVariables false
set_option linter.unusedSimpArgs false
namespace Go.Proofs.Ytmdigamgojfjdaa
open Ks
/-! ### the laws -/
section
variable {k : Ks} {F : GFv} {P M : Int} {mf : List Int}
theorem pb {A B : Prop} (h : A) : (true = true → A) ∧ (true = false → B) := ⟨fun _ => h, fun e => absurd e (by decide)⟩
theorem law_PolyDivides (p t : List Int) : V_PolyDivides P M mf p t (fun b => b = true) := by
  refine w_alive ⟨fun h => absurd h (by decide), fun _ => w_made (fun _ => rfl) fun F k K hF => w_short2 rfl fun hp ht => ?_⟩
  refine w_pdivmod K (by omega) (by omega) (fun h0 => w_rdeg hF (by omega) ⟨fun _ => ⟨fun _ => ⟨fun _ => rfl, fun h => absurd rfl h⟩, fun h => absurd rfl h⟩, fun h => absurd ((deg_neg (pol_fs t)).2 h0) h⟩) fun d hd => w_rdeg hF (by omega) ⟨fun h => absurd ((deg_neg (pol_fs t)).1 h) hd.ne, fun _ => ?_⟩
  obtain ⟨q1, q2, q3⟩ := qt_spec (pol_su (k := k) p) hd
  have l1 := L_len (k := k) q1
  have l3 := L_len (k := k) q3
  have l4 := L_dg (k := k) hd
  have hdt := hd.lt (pol_su t)
  have hfq : Fs (qt (k.pol p) (k.pol t)) := ⟨_, q1⟩
  have hfr : Fs (rm (k.pol p) (k.pol t)) := ⟨_, q3⟩
  have lm := L_len (k := k) (q1.mul (pol_su t))
  have lp := L_len (pol_su (k := k) p)
  have e1 : k.pol (k.L (k.pol (k.L (qt (k.pol p) (k.pol t))) * k.pol t)) + k.pol (k.L (rm (k.pol p) (k.pol t))) = k.pol p := by
    rw [pol_L hfq, pol_L (hfq.mul (pol_fs t)), pol_L hfr, ← q2]
  refine ⟨_, w_rpmul (k := k) hF (by omega) (by omega) rfl, _, w_rpadd (k := k) hF ?_ (by omega) rfl, t0 ⟨fun _ => w_rcanon hF (by omega) (w_same ?_ (by rw [e1]) (pb (w_rcanon hF (by omega) (w_same (by omega) (L_idem hfq).symm (pb (w_rcanon hF (by omega) (w_same (by omega) (L_idem hfr).symm rfl))))))), fun h => absurd (show _ ≤ _ by omega) h⟩⟩
  · rw [pol_L hfq]; omega
  · rw [e1]; omega
end
end Go.Proofs.Ytmdigamgojfjdaa
