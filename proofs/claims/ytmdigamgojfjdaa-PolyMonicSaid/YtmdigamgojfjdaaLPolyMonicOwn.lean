/- What only this law leans on. -/
import Derived.Test.YtmdigamgojfjdaaPolyMonicG11
set_option linter.unusedVariables false
namespace Go.Proofs.Ytmdigamgojfjdaa
open Go.RowKit
theorem Try.nm36 : (Try.f36.name == "runtime.NumGoroutine") = false := by kernel_rfl
end Go.Proofs.Ytmdigamgojfjdaa
set_option linter.unusedSimpArgs false
set_option linter.unusedVariables false
namespace Go.Proofs.Ytmdigamgojfjdaa
open Go.RowKit
def V_pmonic (Fg : GFv) (p : List Int) (Q : List Int × Int → Prop) : Prop :=
  V_canon Fg p (fun x12 => ((((x12.length : Nat) : Int) = (0 : Int)) → (Q (([] : List Int), (7 : Int)))) ∧ (¬ (((x12.length : Nat) : Int) = (0 : Int)) → ((I64 (((x12.length : Nat) : Int) - (1 : Int))) ∧ ((0 ≤ (((x12.length : Nat) : Int) - (1 : Int)) ∧ (((x12.length : Nat) : Int) - (1 : Int)) < (x12.length : Nat)) ∧ (V_Inv Fg (gi x12 (((x12.length : Nat) : Int) - (1 : Int))) (fun q => match q with | (r20, r21) => V_Scale Fg r20 x12 (fun x23 => Q (x23, r21))))))))
theorem ok_pmonic {w : World} {Q : List Int × Int → Prop} {Fg : GFv} {p : List Int} {ag : Addr} {Bg : Nat} (hgg : GFR Bg w ag Fg) {Bp : Nat} {Ap : Option Addr} {np kp : Nat} (hp : Rd Bp w 1 Ap np kp (is p)) (hv : V_pmonic Fg p Q) :
    Calls Try.prog 36 #[.pointer (some ag), .slice Ap np kp] w fun e w' => ∃ v Qr, e = .returned v ∧ w.grownBy w' none ∧ Rows w.heap.size none w' Qr ∧ News w.heap.size Qr ∧ ∃ (r0 : List Int) (r1 : Int) (Ar0 : Option Addr) (cr0 : Nat), v = .tuple #[.slice Ar0 r0.length cr0, .int .i64 r1] ∧ Qr = [.row 3 1 Ar0 r0.length cr0 (is r0)] ∧ Q (r0, r1) := by
  have hgg_ := hgg
  obtain ⟨Ag_mod, kg_mod, Ag_exp, kg_exp, Ag_log, kg_log, Ag_above, kg_above, hg_c, hg_mod, hg_exp, hg_log, hg_above⟩ := hgg_
  have hnp := hp.ilen
  subst hnp
  refine calls_swap ?_
  refine calls_of_W (vs := [.pointer (some ag), .slice Ap p.length kp]) [4, 5] Try.func36 rfl rfl rfl rfl ?_
  have hS := St.start w
  unfold V_pmonic at hv
  refine W.seq ?_
  refine W.region ?_
  refine WL.assign rfl rfl ?_
  refine WL.assign rfl rfl ?_
  refine WL.done ?_
  refine W.seq ?_
  refine W.region ?_
  refine WL.move rfl rfl ?_
  refine WL.move rfl rfl ?_
  refine SL.call hS (ok_canon (GFR.ext (GFR.norm hgg) hS.ext) (hS.ro hp) hv) Try.func22 rfl Try.nm22 rfl rfl ?_
  rintro _ _ w11 ⟨x12, A13, k14, rfl, rfl, hv⟩ hGw11 hS
  change St _ _ _ _ [.row 3 1 A13 x12.length k14 (is x12)] at hS
  refine WL.assign rfl rfl ?_
  refine WL.done ?_
  refine W.seq ?_
  refine W.seq ?_
  refine W.region ?_
  refine WL.move rfl rfl ?_
  refine WL.len Try.underlying22 rfl rfl ?_
  refine WL.eqlD rfl rfl rfl ?_
  refine WL.done ?_
  refine W.cond2 rfl (fun c16 => ?_) (fun c16 => ?_)
  · have hv := hv.1 (of_decide_eq_true c16)
    refine W.seq ?_
    refine W.region ?_
    refine WL.assign rfl rfl ?_
    refine WL.assign rfl rfl ?_
    refine WL.done ?_
    refine W.ret ?_
    have hS := hS.nil (e := 3) (z := 1)
    refine ⟨_, rfl, Fin.nil ?_⟩
    exact ⟨_, hS.ext, (hS.pick [0] rfl).rows, News.of (hS.pick [0] rfl).rows rfl, ⟨([] : List Int), (7 : Int), none, 0, rfl, rfl, hv⟩⟩
  · have hv := hv.2 (of_decide_eq_false c16)
    refine W.skip ?_
    refine W.seq ?_
    refine W.region ?_
    refine WL.move rfl rfl ?_
    refine WL.move rfl rfl ?_
    refine WL.move rfl rfl ?_
    refine WL.len Try.underlying22 rfl rfl ?_
    obtain ⟨o17, hv⟩ := hv
    refine WL.sub (r := (((x12.length : Nat) : Int) - (1 : Int))) rfl rfl (wr o17) rfl ?_
    obtain ⟨o18, hv⟩ := hv
    refine SL.index Try.underlying22 Try.el3 (hS.rd (i := 0) rfl) rfl rfl o18 rfl ?_
    refine WL.load Try.underlying3 rfl rfl (Rd.gi (hS.rd (i := 0) rfl) o18) rfl ?_
    refine SL.call hS (ok_Inv (GFR.ext (GFR.norm hgg) hS.ext) hv) Try.func73 rfl Try.nm73 rfl rfl ?_
    rintro _ _ w19 ⟨r20, r21, rfl, rfl, hv⟩ hGw19 hS
    change St _ _ _ _ [.row 3 1 A13 x12.length k14 (is x12)] at hS
    refine WL.move rfl rfl ?_
    refine WL.extract rfl rfl rfl ?_
    refine WL.extract rfl rfl rfl ?_
    refine WL.assign rfl rfl ?_
    refine WL.assign rfl rfl ?_
    refine WL.done ?_
    refine W.seq ?_
    refine W.region ?_
    refine WL.move rfl rfl ?_
    refine WL.move rfl rfl ?_
    refine WL.move rfl rfl ?_
    refine SL.call hS (ok_Scale (GFR.ext (GFR.norm hgg) hS.ext) (hS.rd (i := 0) rfl) hv) Try.func72 rfl Try.nm72 rfl rfl ?_
    rintro _ _ w22 ⟨x23, A24, k25, rfl, rfl, hv⟩ hGw22 hS
    change St _ _ _ _ [.row 3 1 A24 x23.length k25 (is x23), .row 3 1 A13 x12.length k14 (is x12)] at hS
    refine WL.move rfl rfl ?_
    refine WL.assign rfl rfl ?_
    refine WL.assign rfl rfl ?_
    refine WL.done ?_
    refine W.ret ?_
    refine ⟨_, rfl, Fin.nil ?_⟩
    exact ⟨_, hS.ext, (hS.pick [0] rfl).rows, News.of (hS.pick [0] rfl).rows rfl, ⟨x23, r21, A24, k25, rfl, rfl, hv⟩⟩

end Go.Proofs.Ytmdigamgojfjdaa
set_option linter.unusedSimpArgs false
set_option linter.unusedVariables false
namespace Go.Proofs.Ytmdigamgojfjdaa
open Go.RowKit
def V_PolyMonic (Pf : Int) (Mf : Int) (mf : List Int) (p : List Int) (Q : Bool → Prop) : Prop :=
  V_alive  (fun r14 => (((!r14) = true) → Q false) ∧ ((!r14) = false → (V_made Pf Mf mf (fun q => match q with | none => Q true | some F19 => V_short ([p] : List (List Int)) (fun r29 => (((!r29) = true) → Q true) ∧ ((!r29) = false → (V_pmonic F19 p (fun q => match q with | (x32, r36) => V_rcanon Pf Mf mf p (fun x38 => ((((x38.length : Nat) : Int) = (0 : Int)) → (((r36 = (7 : Int)) → (Q (decide (((x32.length : Nat) : Int) = (0 : Int))))) ∧ (¬ (r36 = (7 : Int)) → Q false))) ∧ (¬ (((x38.length : Nat) : Int) = (0 : Int)) → (((r36 = (0 : Int)) → (((((x32.length : Nat) : Int) = ((x38.length : Nat) : Int)) → ((((gi x32 (((x32.length : Nat) : Int) - (1 : Int))) = (1 : Int)) → ((I64 (((x32.length : Nat) : Int) - (1 : Int))) ∧ ((0 ≤ (((x32.length : Nat) : Int) - (1 : Int)) ∧ (((x32.length : Nat) : Int) - (1 : Int)) < (x32.length : Nat)) ∧ ((I64 (((x38.length : Nat) : Int) - (1 : Int))) ∧ ((0 ≤ (((x38.length : Nat) : Int) - (1 : Int)) ∧ (((x38.length : Nat) : Int) - (1 : Int)) < (x38.length : Nat)) ∧ (∃ (x79 : List Int), V_rpscale Pf Mf mf (gi x38 (((x38.length : Nat) : Int) - (1 : Int))) x32 (fun q => q = x79) ∧ (∃ (r89 : Bool), V_lsame x79 x38 (fun q => q = r89) ∧ Q r89))))))) ∧ (¬ ((gi x32 (((x32.length : Nat) : Int) - (1 : Int))) = (1 : Int)) → ((I64 (((x32.length : Nat) : Int) - (1 : Int))) ∧ ((0 ≤ (((x32.length : Nat) : Int) - (1 : Int)) ∧ (((x32.length : Nat) : Int) - (1 : Int)) < (x32.length : Nat)) ∧ Q false))))) ∧ (¬ (((x32.length : Nat) : Int) = ((x38.length : Nat) : Int)) → Q false))) ∧ (¬ (r36 = (0 : Int)) → Q false))))))))))))
theorem ok_PolyMonic {w : World} {Q : Bool → Prop} {Pf : Int} {Mf : Int} {mf : List Int} {p : List Int} {Bf : Nat} {Af : Option Addr} {nf kf : Nat} (hf : Rd Bf w 1 Af nf kf (is mf)) {Bp : Nat} {Ap : Option Addr} {np kp : Nat} (hp : Rd Bp w 1 Ap np kp (is p)) (hv : V_PolyMonic Pf Mf mf p Q) :
    Calls Try.prog 7 #[.agg #[.int .i64 Pf, .int .i64 Mf, .slice Af nf kf], .slice Ap np kp] w fun e w' => ∃ v Qr, e = .returned v ∧ w.grownBy w' none ∧ Rows w.heap.size none w' Qr ∧ News w.heap.size Qr ∧ ∃ (r0 : Bool), v = .bool r0 ∧ Qr = [] ∧ Q r0 := by
  have hnf := hf.ilen
  subst hnf
  have hnp := hp.ilen
  subst hnp
  refine calls_swap ?_
  refine calls_of_W (vs := [.agg #[.int .i64 Pf, .int .i64 Mf, .slice Af mf.length kf], .slice Ap p.length kp]) [4] Try.func7 rfl rfl rfl rfl ?_
  have hS := St.start w
  unfold V_PolyMonic at hv
  refine W.seq ?_
  refine W.region ?_
  refine SL.box (z := 3) (cs := [.int .i64 Pf, .int .i64 Mf, .slice Af mf.length kf]) hS rfl rfl rfl rfl ?_
  intro g11 w12 hS
  refine WL.assign rfl rfl ?_
  refine WL.done ?_
  refine W.seq ?_
  refine W.seq ?_
  refine W.region ?_
  refine SL.call hS (ok_alive  hv) Try.func20 rfl Try.nm20 rfl rfl ?_
  rintro _ _ w13 ⟨r14, rfl, rfl, hv⟩ hGw13 hS
  change St _ _ _ _ [.row 24 3 (some ⟨g11, 0, none⟩) 1 1 [.int .i64 Pf, .int .i64 Mf, .slice Af mf.length kf]] at hS
  refine WL.not rfl rfl ?_
  refine WL.done ?_
  refine W.cond2 rfl (fun c15 => ?_) (fun c15 => ?_)
  · have hv := hv.1 (c15)
    refine W.seq ?_
    refine W.region ?_
    refine WL.assign rfl rfl ?_
    refine WL.done ?_
    refine W.ret ?_
    refine ⟨_, rfl, Fin.nil ?_⟩
    exact ⟨_, hS.ext, (hS.pick [] rfl).rows, News.of (hS.pick [] rfl).rows rfl, ⟨false, rfl, rfl, hv⟩⟩
  · have hv := hv.2 (c15)
    refine W.skip ?_
    refine W.seq ?_
    refine W.region ?_
    refine WL.loadV (cs := [.int .i64 Pf, .int .i64 Mf, .slice Af mf.length kf]) Try.el24 Try.agg24 rfl rfl (Own.vcells (hS.own (i := 0) rfl)) rfl ?_
    refine SL.call hS (ok_made (hS.ro hf) hv) Try.func21 rfl Try.nm21 rfl rfl ?_
    rintro _ _ w17 ⟨o, hv, hK⟩ hGw17 hS
    cases o with
    | none =>
      obtain ⟨rfl, rfl⟩ := hK
      change St _ _ _ _ [.row 24 3 (some ⟨g11, 0, none⟩) 1 1 [.int .i64 Pf, .int .i64 Mf, .slice Af mf.length kf]] at hS
      refine WL.assign rfl rfl ?_
      refine WL.done ?_
      refine W.seq ?_
      refine W.seq ?_
      refine W.region ?_
      refine WL.move rfl rfl ?_
      refine WL.eqlPn Try.underlying26 rfl rfl rfl rfl ?_
      refine WL.move rfl rfl ?_
      refine WL.pass rfl rfl rfl ?_
      refine WL.pass rfl rfl rfl ?_
      refine WL.pass rfl rfl rfl ?_
      refine WL.pass rfl rfl rfl ?_
      refine WL.pick rfl rfl rfl ?_
      refine WL.done ?_
      refine W.condT rfl ?_
      refine W.seq ?_
      refine W.region ?_
      refine WL.assign rfl rfl ?_
      refine WL.done ?_
      refine W.ret ?_
      refine ⟨_, rfl, Fin.nil ?_⟩
      exact ⟨_, hS.ext, (hS.pick [] rfl).rows, News.of (hS.pick [] rfl).rows rfl, ⟨true, rfl, rfl, hv⟩⟩
    | some F19 =>
      obtain ⟨ad20, lo21, hi22, rfl, rfl⟩ := hK
      change St _ _ _ _ [.ch lo21 hi22 (fun wz => GFX lo21 hi22 wz ad20 F19), .row 24 3 (some ⟨g11, 0, none⟩) 1 1 [.int .i64 Pf, .int .i64 Mf, .slice Af mf.length kf]] at hS
      refine WL.assign rfl rfl ?_
      refine WL.done ?_
      refine W.seq ?_
      refine W.seq ?_
      refine W.region ?_
      refine WL.move rfl rfl ?_
      refine WL.eqlPn Try.underlying26 rfl rfl rfl rfl ?_
      refine WL.move rfl rfl ?_
      refine WL.take rfl ?_
      refine WL.move rfl rfl ?_
      refine WL.take rfl ?_
      refine SL.lit1 (vs := [.slice Ap p.length kp]) hS Try.underlying37 Try.el22 rfl rfl rfl rfl (by simp [Value.oneCell']) rfl ?_
      intro A25 w26 hS
      refine WL.take rfl ?_
      refine SL.call hS (ok_short (ls := ([p] : List (List Int))) ⟨_, _, (hS.rd (i := 0) rfl), ⟨⟨_, _, _, rfl, (Rd.is_m (hS.ro hp))⟩, trivial⟩⟩ hv) Try.func26 rfl Try.nm26 rfl rfl ?_
      rintro _ _ w28 ⟨r29, rfl, rfl, hv⟩ hGw28 hS
      change St _ _ _ _ [.row 22 1 A25 1 1 [.slice Ap p.length kp], .ch lo21 hi22 (fun wz => GFX lo21 hi22 wz ad20 F19), .row 24 3 (some ⟨g11, 0, none⟩) 1 1 [.int .i64 Pf, .int .i64 Mf, .slice Af mf.length kf]] at hS
      refine WL.take rfl ?_
      refine WL.not rfl rfl ?_
      refine WL.pick rfl rfl rfl ?_
      refine WL.done ?_
      refine W.cond2 rfl (fun c30 => ?_) (fun c30 => ?_)
      · have hv := hv.1 (c30)
        refine W.seq ?_
        refine W.region ?_
        refine WL.assign rfl rfl ?_
        refine WL.done ?_
        refine W.ret ?_
        refine ⟨_, rfl, Fin.nil ?_⟩
        exact ⟨_, hS.ext, (hS.pick [] rfl).rows, News.of (hS.pick [] rfl).rows rfl, ⟨true, rfl, rfl, hv⟩⟩
      · have hv := hv.2 (c30)
        refine W.skip ?_
        refine W.seq ?_
        refine W.region ?_
        refine WL.move rfl rfl ?_
        refine WL.move rfl rfl ?_
        refine SL.call hS (ok_pmonic (GFX.gfr (hS.chunk (i := 1) rfl)) (hS.ro hp) hv) Try.func36 rfl Try.nm36 rfl rfl ?_
        rintro _ _ w31 ⟨x32, r36, A33, k34, rfl, rfl, hv⟩ hGw31 hS
        change St _ _ _ _ [.row 3 1 A33 x32.length k34 (is x32), .row 22 1 A25 1 1 [.slice Ap p.length kp], .ch lo21 hi22 (fun wz => GFX lo21 hi22 wz ad20 F19), .row 24 3 (some ⟨g11, 0, none⟩) 1 1 [.int .i64 Pf, .int .i64 Mf, .slice Af mf.length kf]] at hS
        refine WL.move rfl rfl ?_
        refine WL.extract rfl rfl rfl ?_
        refine WL.extract rfl rfl rfl ?_
        refine WL.assign rfl rfl ?_
        refine WL.assign rfl rfl ?_
        refine WL.done ?_
        refine W.seq ?_
        refine W.region ?_
        refine WL.loadV (cs := [.int .i64 Pf, .int .i64 Mf, .slice Af mf.length kf]) Try.el24 Try.agg24 rfl rfl (Own.vcells (hS.own (i := 3) rfl)) rfl ?_
        refine WL.move rfl rfl ?_
        refine SL.call hS (ok_rcanon (hS.ro hf) (hS.ro hp) hv) Try.func24 rfl Try.nm24 rfl rfl ?_
        rintro _ _ w37 ⟨x38, A39, k40, rfl, rfl, hv⟩ hGw37 hS
        change St _ _ _ _ [.row 3 1 A39 x38.length k40 (is x38), .row 3 1 A33 x32.length k34 (is x32), .row 22 1 A25 1 1 [.slice Ap p.length kp], .ch lo21 hi22 (fun wz => GFX lo21 hi22 wz ad20 F19), .row 24 3 (some ⟨g11, 0, none⟩) 1 1 [.int .i64 Pf, .int .i64 Mf, .slice Af mf.length kf]] at hS
        refine WL.assign rfl rfl ?_
        refine WL.done ?_
        refine W.seq ?_
        refine W.seq ?_
        refine W.region ?_
        refine WL.move rfl rfl ?_
        refine WL.len Try.underlying22 rfl rfl ?_
        refine WL.eqlD rfl rfl rfl ?_
        refine WL.done ?_
        refine W.cond2 rfl (fun c42 => ?_) (fun c42 => ?_)
        · have hv := hv.1 (of_decide_eq_true c42)
          refine W.seq ?_
          refine W.region ?_
          refine WL.move rfl rfl ?_
          refine WL.eqlD rfl rfl rfl ?_
          refine WL.move rfl rfl ?_
          by_cases g43 : r36 = (7 : Int)
          · have hv := hv.1 g43
            rw [decide_eq_true g43]
            refine WL.take rfl ?_
            refine WL.move rfl rfl ?_
            refine WL.take rfl ?_
            refine WL.len Try.underlying22 rfl rfl ?_
            refine WL.take rfl ?_
            refine WL.eqlD rfl rfl rfl ?_
            refine WL.pick rfl rfl rfl ?_
            refine WL.assign rfl rfl ?_
            refine WL.done ?_
            refine W.ret ?_
            refine ⟨_, rfl, Fin.nil ?_⟩
            exact ⟨_, hS.ext, (hS.pick [] rfl).rows, News.of (hS.pick [] rfl).rows rfl, ⟨(decide (((x32.length : Nat) : Int) = (0 : Int))), rfl, rfl, hv⟩⟩
          · have hv := hv.2 g43
            rw [decide_eq_false g43]
            refine WL.pass rfl rfl rfl ?_
            refine WL.pass rfl rfl rfl ?_
            refine WL.pass rfl rfl rfl ?_
            refine WL.pick rfl rfl rfl ?_
            refine WL.assign rfl rfl ?_
            refine WL.done ?_
            refine W.ret ?_
            refine ⟨_, rfl, Fin.nil ?_⟩
            exact ⟨_, hS.ext, (hS.pick [] rfl).rows, News.of (hS.pick [] rfl).rows rfl, ⟨false, rfl, rfl, hv⟩⟩
        · have hv := hv.2 (of_decide_eq_false c42)
          refine W.skip ?_
          refine W.seq ?_
          by_cases g44 : r36 = (0 : Int)
          · have hv := hv.1 g44
            by_cases g45 : ((x32.length : Nat) : Int) = ((x38.length : Nat) : Int)
            · have hv := hv.1 g45
              by_cases g46 : (gi x32 (((x32.length : Nat) : Int) - (1 : Int))) = (1 : Int)
              · have hv := hv.1 g46
                obtain ⟨o61, hv⟩ := hv
                obtain ⟨o63, hv⟩ := hv
                obtain ⟨o73, hv⟩ := hv
                obtain ⟨o75, hv⟩ := hv
                obtain ⟨x79, o86, hv⟩ := hv
                obtain ⟨r89, o91, hv⟩ := hv
                have hS0 := hS
                refine W.drawX 32 (fun iA => [false, false, false, false, false, false, false, false, false, false, false, false, false, false, false, false, false, false, false, false, false, false, false, false, false, false, false, true, false, false, false, false].getD iA false) (fun _ => none) [⟨[], [7], true⟩, ⟨[0], [], true⟩, ⟨[1], [], true⟩, ⟨[2], [6], true⟩, ⟨[2, 3], [], true⟩, ⟨[2], [8], true⟩, ⟨[2, 5], [], true⟩, ⟨[2, 4, 6], [], true⟩, ⟨[2, 7], [], true⟩, ⟨[8], [], true⟩, ⟨[9], [6], true⟩, ⟨[9], [6], true⟩, ⟨[9, 11], [], true⟩, ⟨[9, 12], [], true⟩, ⟨[9, 10, 13], [], true⟩, ⟨[9, 14], [], false⟩, ⟨[9, 15], [], true⟩, ⟨[9, 16], [], true⟩, ⟨[17], [], true⟩, ⟨[18], [2], false⟩, ⟨[18], [8], true⟩, ⟨[18], [8], true⟩, ⟨[18, 21], [], true⟩, ⟨[18, 22], [], true⟩, ⟨[18, 20, 23], [], true⟩, ⟨[18, 24], [], false⟩, ⟨[18], [6], true⟩, ⟨[18, 19, 25, 26], [], false⟩, ⟨[18], [8], true⟩, ⟨[18, 27, 28], [], false⟩, ⟨[18, 29], [], true⟩, ⟨[30], [], true⟩] [[(7, .int .i64 r36)], [], [], [(6, .slice A33 x32.length k34)], [], [(8, .slice A39 x38.length k40)], [], [], [], [], [(6, .slice A33 x32.length k34)], [(6, .slice A33 x32.length k34)], [], [], [], [], [], [], [], [(2, .pointer (some ⟨g11, 0, none⟩))], [(8, .slice A39 x38.length k40)], [(8, .slice A39 x38.length k40)], [], [], [], [], [(6, .slice A33 x32.length k34)], [], [(8, .slice A39 x38.length k40)], [], [], []] (fun iQ => [fun v _ => v = .int .i64 r36, fun v _ => v = .bool true, fun v _ => v = .bool true, fun v _ => v = .slice A33 x32.length k34, fun v _ => v = .int .i64 ((x32.length : Nat) : Int), fun v _ => v = .slice A39 x38.length k40, fun v _ => v = .int .i64 ((x38.length : Nat) : Int), fun v _ => v = .bool true, fun v _ => v = .bool true, fun v _ => v = .bool true, fun v _ => v = .slice A33 x32.length k34, fun v _ => v = .slice A33 x32.length k34, fun v _ => v = .int .i64 ((x32.length : Nat) : Int), fun v _ => v = .int .i64 (((x32.length : Nat) : Int) - (1 : Int)), fun v _ => v = .pointer (some ((adOf A33).add ((((x32.length : Nat) : Int) - (1 : Int)).toNat))), fun v _ => v = .int .i64 (gi x32 (((x32.length : Nat) : Int) - (1 : Int))), fun v _ => v = .bool true, fun v _ => v = .bool true, fun v _ => v = .bool true, fun v _ => v = .agg #[.int .i64 Pf, .int .i64 Mf, .slice Af mf.length kf], fun v _ => v = .slice A39 x38.length k40, fun v _ => v = .slice A39 x38.length k40, fun v _ => v = .int .i64 ((x38.length : Nat) : Int), fun v _ => v = .int .i64 (((x38.length : Nat) : Int) - (1 : Int)), fun v _ => v = .pointer (some ((adOf A39).add ((((x38.length : Nat) : Int) - (1 : Int)).toNat))), fun v _ => v = .int .i64 (gi x38 (((x38.length : Nat) : Int) - (1 : Int))), fun v _ => v = .slice A33 x32.length k34, fun v wQ => ∃ A80_27 k81_27, v = .slice A80_27 x79.length k81_27 ∧ Own 0 wQ 3 1 A80_27 x79.length k81_27 (is x79) ∧ (∀ g, bl A80_27 = some g → w37.heap.size ≤ g), fun v _ => v = .slice A39 x38.length k40, fun v _ => v = .bool r89, fun v _ => v = .bool r89, fun v _ => v = .bool r89].getD iQ (fun _ _ => True)) Try.mixed (by kernel_rfl) ?_ (by kernel_rfl) ?_ ?_
                · refine Vs_monoT _ ?_
                  intro VQ hVQ vQ wQ1 wQ2 hQ1 hQ2
                  simp only [List.mem_cons, List.not_mem_nil, or_false] at hVQ
                  rcases hVQ with rfl | rfl | rfl | rfl | rfl | rfl | rfl | rfl | rfl | rfl | rfl | rfl | rfl | rfl | rfl | rfl | rfl | rfl | rfl | rfl | rfl | rfl | rfl | rfl | rfl | rfl | rfl | rfl | rfl | rfl | rfl | rfl
                  · exact hQ1
                  · exact hQ1
                  · exact hQ1
                  · exact hQ1
                  · exact hQ1
                  · exact hQ1
                  · exact hQ1
                  · exact hQ1
                  · exact hQ1
                  · exact hQ1
                  · exact hQ1
                  · exact hQ1
                  · exact hQ1
                  · exact hQ1
                  · exact hQ1
                  · exact hQ1
                  · exact hQ1
                  · exact hQ1
                  · exact hQ1
                  · exact hQ1
                  · exact hQ1
                  · exact hQ1
                  · exact hQ1
                  · exact hQ1
                  · exact hQ1
                  · exact hQ1
                  · exact hQ1
                  · obtain ⟨A80_27, k81_27, hQe, hO84_27, hN85_27⟩ := hQ1
                    exact ⟨A80_27, k81_27, hQe, hO84_27.ext hQ2, hN85_27⟩
                  · exact hQ1
                  · exact hQ1
                  · exact hQ1
                  · exact hQ1
                · refine ⟨⟨rfl, ⟨rfl, trivial⟩, ?_⟩, ⟨rfl, trivial, ?_⟩, ⟨rfl, trivial, ?_⟩, ⟨rfl, ⟨rfl, trivial⟩, ?_⟩, ⟨rfl, trivial, ?_⟩, ⟨rfl, ⟨rfl, trivial⟩, ?_⟩, ⟨rfl, trivial, ?_⟩, ⟨rfl, trivial, ?_⟩, ⟨rfl, trivial, ?_⟩, ⟨rfl, trivial, ?_⟩, ⟨rfl, ⟨rfl, trivial⟩, ?_⟩, ⟨rfl, ⟨rfl, trivial⟩, ?_⟩, ⟨rfl, trivial, ?_⟩, ⟨rfl, trivial, ?_⟩, ⟨rfl, trivial, ?_⟩, ⟨rfl, trivial, ?_⟩, ⟨rfl, trivial, ?_⟩, ⟨rfl, trivial, ?_⟩, ⟨rfl, trivial, ?_⟩, ⟨rfl, ⟨rfl, trivial⟩, ?_⟩, ⟨rfl, ⟨rfl, trivial⟩, ?_⟩, ⟨rfl, ⟨rfl, trivial⟩, ?_⟩, ⟨rfl, trivial, ?_⟩, ⟨rfl, trivial, ?_⟩, ⟨rfl, trivial, ?_⟩, ⟨rfl, trivial, ?_⟩, ⟨rfl, ⟨rfl, trivial⟩, ?_⟩, ⟨rfl, trivial, ?_⟩, ⟨rfl, ⟨rfl, trivial⟩, ?_⟩, ⟨rfl, trivial, ?_⟩, ⟨rfl, trivial, ?_⟩, ⟨rfl, trivial, ?_⟩, trivial⟩
                  · intro w47 hE
                    intro RR
                    refine WL.move rfl rfl ?_
                    exact WL.done ⟨_, rfl, rfl, rfl, (fun h => absurd h (by decide)), (fun j h => by cases h)⟩
                  · intro w48 hE
                    rintro _ rfl
                    intro RR
                    refine WL.eqlD rfl rfl rfl ?_; rw [decide_eq_true g44]
                    exact WL.done ⟨_, rfl, rfl, rfl, (fun h => absurd h (by decide)), (fun j h => by cases h)⟩
                  · intro w49 hE
                    rintro _ rfl
                    intro RR
                    refine WL.move rfl rfl ?_
                    exact WL.done ⟨_, rfl, rfl, rfl, (fun h => absurd h (by decide)), (fun j h => by cases h)⟩
                  · intro w50 hE
                    rintro _ rfl
                    intro RR
                    refine WL.take rfl ?_
                    refine WL.move rfl rfl ?_
                    exact WL.done ⟨_, rfl, rfl, rfl, (fun h => absurd h (by decide)), (fun j h => by cases h)⟩
                  · intro w51 hE
                    rintro _ rfl
                    rintro _ rfl
                    intro RR
                    refine WL.take rfl ?_
                    refine WL.len Try.underlying22 rfl rfl ?_
                    exact WL.done ⟨_, rfl, rfl, rfl, (fun h => absurd h (by decide)), (fun j h => by cases h)⟩
                  · intro w52 hE
                    rintro _ rfl
                    intro RR
                    refine WL.take rfl ?_
                    refine WL.move rfl rfl ?_
                    exact WL.done ⟨_, rfl, rfl, rfl, (fun h => absurd h (by decide)), (fun j h => by cases h)⟩
                  · intro w53 hE
                    rintro _ rfl
                    rintro _ rfl
                    intro RR
                    refine WL.take rfl ?_
                    refine WL.len Try.underlying22 rfl rfl ?_
                    exact WL.done ⟨_, rfl, rfl, rfl, (fun h => absurd h (by decide)), (fun j h => by cases h)⟩
                  · intro w54 hE
                    rintro _ rfl
                    rintro _ rfl
                    rintro _ rfl
                    intro RR
                    refine WL.take rfl ?_
                    refine WL.eqlD rfl rfl rfl ?_; rw [decide_eq_true g45]
                    exact WL.done ⟨_, rfl, rfl, rfl, (fun h => absurd h (by decide)), (fun j h => by cases h)⟩
                  · intro w55 hE
                    rintro _ rfl
                    rintro _ rfl
                    intro RR
                    refine WL.pick rfl rfl rfl ?_
                    exact WL.done ⟨_, rfl, rfl, rfl, (fun h => absurd h (by decide)), (fun j h => by cases h)⟩
                  · intro w56 hE
                    rintro _ rfl
                    intro RR
                    refine WL.move rfl rfl ?_
                    exact WL.done ⟨_, rfl, rfl, rfl, (fun h => absurd h (by decide)), (fun j h => by cases h)⟩
                  · intro w57 hE
                    rintro _ rfl
                    intro RR
                    refine WL.take rfl ?_
                    refine WL.move rfl rfl ?_
                    exact WL.done ⟨_, rfl, rfl, rfl, (fun h => absurd h (by decide)), (fun j h => by cases h)⟩
                  · intro w58 hE
                    rintro _ rfl
                    intro RR
                    refine WL.take rfl ?_
                    refine WL.move rfl rfl ?_
                    exact WL.done ⟨_, rfl, rfl, rfl, (fun h => absurd h (by decide)), (fun j h => by cases h)⟩
                  · intro w59 hE
                    rintro _ rfl
                    rintro _ rfl
                    intro RR
                    refine WL.take rfl ?_
                    refine WL.len Try.underlying22 rfl rfl ?_
                    exact WL.done ⟨_, rfl, rfl, rfl, (fun h => absurd h (by decide)), (fun j h => by cases h)⟩
                  · intro w60 hE
                    rintro _ rfl
                    rintro _ rfl
                    intro RR
                    refine WL.take rfl ?_
                    refine WL.sub (r := (((x32.length : Nat) : Int) - (1 : Int))) rfl rfl (wr o61) rfl ?_
                    exact WL.done ⟨_, rfl, rfl, rfl, (fun h => absurd h (by decide)), (fun j h => by cases h)⟩
                  · intro w62 hE
                    rintro _ rfl
                    rintro _ rfl
                    rintro _ rfl
                    intro RR
                    refine WL.take rfl ?_
                    refine SL.index Try.underlying22 Try.el3 (hS.rd (i := 1) rfl) rfl rfl o63 rfl ?_
                    exact WL.done ⟨_, rfl, rfl, rfl, (fun h => absurd h (by decide)), (fun j h => by cases h)⟩
                  · intro w64 hE
                    have hE := hE rfl
                    have hS := hS.grow hE
                    rintro _ rfl
                    rintro _ rfl
                    intro RR
                    refine WL.take rfl ?_
                    refine WL.load Try.underlying3 rfl rfl (Rd.gi (hS.rd (i := 1) rfl) o63) rfl ?_
                    exact WL.done ⟨_, rfl, ext_refl _, rfl, (fun h => absurd h (by decide)), (fun j h => by cases h)⟩
                  · intro w65 hE
                    rintro _ rfl
                    rintro _ rfl
                    intro RR
                    refine WL.take rfl ?_
                    refine WL.eqlD rfl rfl rfl ?_; rw [decide_eq_true g46]
                    exact WL.done ⟨_, rfl, rfl, rfl, (fun h => absurd h (by decide)), (fun j h => by cases h)⟩
                  · intro w66 hE
                    rintro _ rfl
                    rintro _ rfl
                    intro RR
                    refine WL.pick rfl rfl rfl ?_
                    exact WL.done ⟨_, rfl, rfl, rfl, (fun h => absurd h (by decide)), (fun j h => by cases h)⟩
                  · intro w67 hE
                    rintro _ rfl
                    intro RR
                    refine WL.move rfl rfl ?_
                    exact WL.done ⟨_, rfl, rfl, rfl, (fun h => absurd h (by decide)), (fun j h => by cases h)⟩
                  · intro w68 hE
                    have hE := hE rfl
                    have hS := hS.grow hE
                    rintro _ rfl
                    intro RR
                    refine WL.take rfl ?_
                    refine WL.loadV (cs := [.int .i64 Pf, .int .i64 Mf, .slice Af mf.length kf]) Try.el24 Try.agg24 rfl rfl (Own.vcells (hS.own (i := 4) rfl)) rfl ?_
                    exact WL.done ⟨_, rfl, ext_refl _, rfl, (fun h => absurd h (by decide)), (fun j h => by cases h)⟩
                  · intro w69 hE
                    rintro _ rfl
                    intro RR
                    refine WL.take rfl ?_
                    refine WL.move rfl rfl ?_
                    exact WL.done ⟨_, rfl, rfl, rfl, (fun h => absurd h (by decide)), (fun j h => by cases h)⟩
                  · intro w70 hE
                    rintro _ rfl
                    intro RR
                    refine WL.take rfl ?_
                    refine WL.move rfl rfl ?_
                    exact WL.done ⟨_, rfl, rfl, rfl, (fun h => absurd h (by decide)), (fun j h => by cases h)⟩
                  · intro w71 hE
                    rintro _ rfl
                    rintro _ rfl
                    intro RR
                    refine WL.take rfl ?_
                    refine WL.len Try.underlying22 rfl rfl ?_
                    exact WL.done ⟨_, rfl, rfl, rfl, (fun h => absurd h (by decide)), (fun j h => by cases h)⟩
                  · intro w72 hE
                    rintro _ rfl
                    rintro _ rfl
                    intro RR
                    refine WL.take rfl ?_
                    refine WL.sub (r := (((x38.length : Nat) : Int) - (1 : Int))) rfl rfl (wr o73) rfl ?_
                    exact WL.done ⟨_, rfl, rfl, rfl, (fun h => absurd h (by decide)), (fun j h => by cases h)⟩
                  · intro w74 hE
                    rintro _ rfl
                    rintro _ rfl
                    rintro _ rfl
                    intro RR
                    refine WL.take rfl ?_
                    refine SL.index Try.underlying22 Try.el3 (hS.rd (i := 0) rfl) rfl rfl o75 rfl ?_
                    exact WL.done ⟨_, rfl, rfl, rfl, (fun h => absurd h (by decide)), (fun j h => by cases h)⟩
                  · intro w76 hE
                    have hE := hE rfl
                    have hS := hS.grow hE
                    rintro _ rfl
                    rintro _ rfl
                    intro RR
                    refine WL.take rfl ?_
                    refine WL.load Try.underlying3 rfl rfl (Rd.gi (hS.rd (i := 0) rfl) o75) rfl ?_
                    exact WL.done ⟨_, rfl, ext_refl _, rfl, (fun h => absurd h (by decide)), (fun j h => by cases h)⟩
                  · intro w77 hE
                    rintro _ rfl
                    intro RR
                    refine WL.take rfl ?_
                    refine WL.move rfl rfl ?_
                    exact WL.done ⟨_, rfl, rfl, rfl, (fun h => absurd h (by decide)), (fun j h => by cases h)⟩
                  · intro w78 hE
                    have hE := hE rfl
                    have hS := hS.grow hE
                    rintro _ rfl
                    rintro _ rfl
                    rintro _ rfl
                    rintro _ rfl
                    intro RR
                    refine WL.take rfl ?_
                    refine WL.call Try.func34 rfl Try.nm34 rfl rfl (calls_un (ok_rpscale (hS.ro hf) (hS.rd (i := 1) rfl) o86)) ?_
                    rintro _ w83 ⟨_, hGw83, hRww83, hNww83, x79q, A80, k81, rfl, rfl, he⟩
                    subst he
                    have hO84 := (hRww83.get (i := 0) rfl).1
                    have hN85 : ∀ g, bl A80 = some g → _ ≤ g := fun g hg => Nat.le_trans hE.size (hNww83.1 g hg)
                    exact WL.done ⟨_, rfl, hGw83, ⟨A80, k81, rfl, hO84, hN85⟩, (fun _ => fun g hg => ⟨hNww83.1 g hg, (hO84.bl_ge g hg).2⟩), (fun j h => by cases h)⟩
                  · intro w87 hE
                    rintro _ rfl
                    intro RR
                    refine WL.take rfl ?_
                    refine WL.move rfl rfl ?_
                    exact WL.done ⟨_, rfl, rfl, rfl, (fun h => absurd h (by decide)), (fun j h => by cases h)⟩
                  · intro w88 hE
                    have hE := hE rfl
                    have hS := hS.grow hE
                    rintro _ rfl
                    rintro _ ⟨A80_27, k81_27, rfl, hO84_27, hN85_27⟩
                    rintro _ rfl
                    intro RR
                    refine WL.take rfl ?_
                    refine WL.call Try.func23 rfl Try.nm23 rfl rfl (calls_un (ok_lsame hO84_27.rd (hS.rd (i := 0) rfl) o91)) ?_
                    rintro _ w90 ⟨_, hGw90, hRww90, hNww90, r89q, rfl, rfl, he⟩
                    subst he
                    exact WL.done ⟨_, rfl, hGw90, rfl, (fun h => absurd h (by decide)), (fun j h => by cases h)⟩
                  · intro w92 hE
                    rintro _ rfl
                    rintro _ rfl
                    intro RR
                    refine WL.pick rfl rfl rfl ?_
                    exact WL.done ⟨_, rfl, rfl, rfl, (fun h => absurd h (by decide)), (fun j h => by cases h)⟩
                  · intro w93 hE
                    rintro _ rfl
                    intro RR
                    refine WL.assign rfl rfl ?_
                    exact WL.done ⟨_, rfl, rfl, rfl, (fun h => absurd h (by decide)), (fun j h => by cases h)⟩
                · intro vals w94 hT hVs hAp hCp
                  have hS := hS.grow hT
                  have hv0 : vals 0 = _ := hVs 0 (by decide)
                  have hv1 : vals 1 = _ := hVs 1 (by decide)
                  have hv2 : vals 2 = _ := hVs 2 (by decide)
                  have hv3 : vals 3 = _ := hVs 3 (by decide)
                  have hv4 : vals 4 = _ := hVs 4 (by decide)
                  have hv5 : vals 5 = _ := hVs 5 (by decide)
                  have hv6 : vals 6 = _ := hVs 6 (by decide)
                  have hv7 : vals 7 = _ := hVs 7 (by decide)
                  have hv8 : vals 8 = _ := hVs 8 (by decide)
                  have hv9 : vals 9 = _ := hVs 9 (by decide)
                  have hv10 : vals 10 = _ := hVs 10 (by decide)
                  have hv11 : vals 11 = _ := hVs 11 (by decide)
                  have hv12 : vals 12 = _ := hVs 12 (by decide)
                  have hv13 : vals 13 = _ := hVs 13 (by decide)
                  have hv14 : vals 14 = _ := hVs 14 (by decide)
                  have hv15 : vals 15 = _ := hVs 15 (by decide)
                  have hv16 : vals 16 = _ := hVs 16 (by decide)
                  have hv17 : vals 17 = _ := hVs 17 (by decide)
                  have hv18 : vals 18 = _ := hVs 18 (by decide)
                  have hv19 : vals 19 = _ := hVs 19 (by decide)
                  have hv20 : vals 20 = _ := hVs 20 (by decide)
                  have hv21 : vals 21 = _ := hVs 21 (by decide)
                  have hv22 : vals 22 = _ := hVs 22 (by decide)
                  have hv23 : vals 23 = _ := hVs 23 (by decide)
                  have hv24 : vals 24 = _ := hVs 24 (by decide)
                  have hv25 : vals 25 = _ := hVs 25 (by decide)
                  have hv26 : vals 26 = _ := hVs 26 (by decide)
                  obtain ⟨A80_27, k81_27, hv27, hO84_27, hN85_27⟩ := hVs 27 (by decide)
                  have hv28 : vals 28 = _ := hVs 28 (by decide)
                  have hv29 : vals 29 = _ := hVs 29 (by decide)
                  have hv30 : vals 30 = _ := hVs 30 (by decide)
                  have hv31 : vals 31 = _ := hVs 31 (by decide)
                  rw [show (List.filterMap (fun i => Option.map (fun t => (t, vals i)) (dstAt _ i)) (List.range _)) = [(40, .int .i64 r36), (41, .bool true), (42, .bool true), (43, .slice A33 x32.length k34), (44, .int .i64 ((x32.length : Nat) : Int)), (45, .slice A39 x38.length k40), (46, .int .i64 ((x38.length : Nat) : Int)), (47, .bool true), (48, .bool true), (49, .bool true), (50, .slice A33 x32.length k34), (51, .slice A33 x32.length k34), (52, .int .i64 ((x32.length : Nat) : Int)), (53, .int .i64 (((x32.length : Nat) : Int) - (1 : Int))), (54, .pointer (some ((adOf A33).add ((((x32.length : Nat) : Int) - (1 : Int)).toNat)))), (55, .int .i64 (gi x32 (((x32.length : Nat) : Int) - (1 : Int)))), (56, .bool true), (57, .bool true), (58, .bool true), (59, .agg #[.int .i64 Pf, .int .i64 Mf, .slice Af mf.length kf]), (60, .slice A39 x38.length k40), (61, .slice A39 x38.length k40), (62, .int .i64 ((x38.length : Nat) : Int)), (63, .int .i64 (((x38.length : Nat) : Int) - (1 : Int))), (64, .pointer (some ((adOf A39).add ((((x38.length : Nat) : Int) - (1 : Int)).toNat)))), (65, .int .i64 (gi x38 (((x38.length : Nat) : Int) - (1 : Int)))), (66, .slice A33 x32.length k34), (67, .slice A80_27 x79.length k81_27), (68, .slice A39 x38.length k40), (69, .bool r89), (70, .bool r89), (4, .bool r89)] from by
                    show [(40, vals 0), (41, vals 1), (42, vals 2), (43, vals 3), (44, vals 4), (45, vals 5), (46, vals 6), (47, vals 7), (48, vals 8), (49, vals 9), (50, vals 10), (51, vals 11), (52, vals 12), (53, vals 13), (54, vals 14), (55, vals 15), (56, vals 16), (57, vals 17), (58, vals 18), (59, vals 19), (60, vals 20), (61, vals 21), (62, vals 22), (63, vals 23), (64, vals 24), (65, vals 25), (66, vals 26), (67, vals 27), (68, vals 28), (69, vals 29), (70, vals 30), (4, vals 31)] = _
                    rw [hv0, hv1, hv2, hv3, hv4, hv5, hv6, hv7, hv8, hv9, hv10, hv11, hv12, hv13, hv14, hv15, hv16, hv17, hv18, hv19, hv20, hv21, hv22, hv23, hv24, hv25, hv26, hv27, hv28, hv29, hv30, hv31]]
                  refine WA.done (by decide +kernel) ?_
                  refine W.ret ?_
                  refine ⟨_, rfl, Fin.nil ?_⟩
                  exact ⟨_, hS.ext, (hS.pick [] rfl).rows, News.of (hS.pick [] rfl).rows rfl, ⟨r89, rfl, rfl, hv⟩⟩
              · have hv := hv.2 g46
                obtain ⟨o109, hv⟩ := hv
                obtain ⟨o111, hv⟩ := hv
                have hS0 := hS
                refine W.drawX 32 (fun _ => false) (fun _ => none) [⟨[], [7], true⟩, ⟨[0], [], true⟩, ⟨[1], [], true⟩, ⟨[2], [6], true⟩, ⟨[2, 3], [], true⟩, ⟨[2], [8], true⟩, ⟨[2, 5], [], true⟩, ⟨[2, 4, 6], [], true⟩, ⟨[2, 7], [], true⟩, ⟨[8], [], true⟩, ⟨[9], [6], true⟩, ⟨[9], [6], true⟩, ⟨[9, 11], [], true⟩, ⟨[9, 12], [], true⟩, ⟨[9, 10, 13], [], true⟩, ⟨[9, 14], [], false⟩, ⟨[9, 15], [], true⟩, ⟨[9, 16], [], true⟩, ⟨[17], [], true⟩, ⟨[18], [2], false⟩, ⟨[18], [8], true⟩, ⟨[18], [8], true⟩, ⟨[18, 21], [], true⟩, ⟨[18, 22], [], true⟩, ⟨[18, 20, 23], [], true⟩, ⟨[18, 24], [], false⟩, ⟨[18], [6], true⟩, ⟨[18, 19, 25, 26], [], false⟩, ⟨[18], [8], true⟩, ⟨[18, 27, 28], [], false⟩, ⟨[18, 29], [], true⟩, ⟨[30], [], true⟩] [[(7, .int .i64 r36)], [], [], [(6, .slice A33 x32.length k34)], [], [(8, .slice A39 x38.length k40)], [], [], [], [], [(6, .slice A33 x32.length k34)], [(6, .slice A33 x32.length k34)], [], [], [], [], [], [], [], [(2, .pointer (some ⟨g11, 0, none⟩))], [(8, .slice A39 x38.length k40)], [(8, .slice A39 x38.length k40)], [], [], [], [], [(6, .slice A33 x32.length k34)], [], [(8, .slice A39 x38.length k40)], [], [], []] (fun iQ => [fun v _ => v = .int .i64 r36, fun v _ => v = .bool true, fun v _ => v = .bool true, fun v _ => v = .slice A33 x32.length k34, fun v _ => v = .int .i64 ((x32.length : Nat) : Int), fun v _ => v = .slice A39 x38.length k40, fun v _ => v = .int .i64 ((x38.length : Nat) : Int), fun v _ => v = .bool true, fun v _ => v = .bool true, fun v _ => v = .bool true, fun v _ => v = .slice A33 x32.length k34, fun v _ => v = .slice A33 x32.length k34, fun v _ => v = .int .i64 ((x32.length : Nat) : Int), fun v _ => v = .int .i64 (((x32.length : Nat) : Int) - (1 : Int)), fun v _ => v = .pointer (some ((adOf A33).add ((((x32.length : Nat) : Int) - (1 : Int)).toNat))), fun v _ => v = .int .i64 (gi x32 (((x32.length : Nat) : Int) - (1 : Int))), fun v _ => v = .bool false, fun v _ => v = .bool false, fun v _ => v = .bool false, fun v _ => v = undef, fun v _ => v = undef, fun v _ => v = undef, fun v _ => v = undef, fun v _ => v = undef, fun v _ => v = undef, fun v _ => v = undef, fun v _ => v = undef, fun v _ => v = undef, fun v _ => v = undef, fun v _ => v = undef, fun v _ => v = .bool false, fun v _ => v = .bool false].getD iQ (fun _ _ => True)) Try.mixed (by kernel_rfl) ?_ (by kernel_rfl) ?_ ?_
                · refine Vs_monoT _ ?_
                  intro VQ hVQ vQ wQ1 wQ2 hQ1 hQ2
                  simp only [List.mem_cons, List.not_mem_nil, or_false] at hVQ
                  rcases hVQ with rfl | rfl | rfl | rfl | rfl | rfl | rfl | rfl | rfl | rfl | rfl | rfl | rfl | rfl | rfl | rfl | rfl | rfl | rfl | rfl | rfl | rfl | rfl | rfl | rfl | rfl | rfl | rfl | rfl | rfl | rfl | rfl
                  · exact hQ1
                  · exact hQ1
                  · exact hQ1
                  · exact hQ1
                  · exact hQ1
                  · exact hQ1
                  · exact hQ1
                  · exact hQ1
                  · exact hQ1
                  · exact hQ1
                  · exact hQ1
                  · exact hQ1
                  · exact hQ1
                  · exact hQ1
                  · exact hQ1
                  · exact hQ1
                  · exact hQ1
                  · exact hQ1
                  · exact hQ1
                  · exact hQ1
                  · exact hQ1
                  · exact hQ1
                  · exact hQ1
                  · exact hQ1
                  · exact hQ1
                  · exact hQ1
                  · exact hQ1
                  · exact hQ1
                  · exact hQ1
                  · exact hQ1
                  · exact hQ1
                  · exact hQ1
                · refine ⟨⟨rfl, ⟨rfl, trivial⟩, ?_⟩, ⟨rfl, trivial, ?_⟩, ⟨rfl, trivial, ?_⟩, ⟨rfl, ⟨rfl, trivial⟩, ?_⟩, ⟨rfl, trivial, ?_⟩, ⟨rfl, ⟨rfl, trivial⟩, ?_⟩, ⟨rfl, trivial, ?_⟩, ⟨rfl, trivial, ?_⟩, ⟨rfl, trivial, ?_⟩, ⟨rfl, trivial, ?_⟩, ⟨rfl, ⟨rfl, trivial⟩, ?_⟩, ⟨rfl, ⟨rfl, trivial⟩, ?_⟩, ⟨rfl, trivial, ?_⟩, ⟨rfl, trivial, ?_⟩, ⟨rfl, trivial, ?_⟩, ⟨rfl, trivial, ?_⟩, ⟨rfl, trivial, ?_⟩, ⟨rfl, trivial, ?_⟩, ⟨rfl, trivial, ?_⟩, ⟨rfl, ⟨rfl, trivial⟩, ?_⟩, ⟨rfl, ⟨rfl, trivial⟩, ?_⟩, ⟨rfl, ⟨rfl, trivial⟩, ?_⟩, ⟨rfl, trivial, ?_⟩, ⟨rfl, trivial, ?_⟩, ⟨rfl, trivial, ?_⟩, ⟨rfl, trivial, ?_⟩, ⟨rfl, ⟨rfl, trivial⟩, ?_⟩, ⟨rfl, trivial, ?_⟩, ⟨rfl, ⟨rfl, trivial⟩, ?_⟩, ⟨rfl, trivial, ?_⟩, ⟨rfl, trivial, ?_⟩, ⟨rfl, trivial, ?_⟩, trivial⟩
                  · intro w95 hE
                    intro RR
                    refine WL.move rfl rfl ?_
                    exact WL.done ⟨_, rfl, rfl, rfl, (fun h => absurd h (by decide)), (fun j h => by cases h)⟩
                  · intro w96 hE
                    rintro _ rfl
                    intro RR
                    refine WL.eqlD rfl rfl rfl ?_; rw [decide_eq_true g44]
                    exact WL.done ⟨_, rfl, rfl, rfl, (fun h => absurd h (by decide)), (fun j h => by cases h)⟩
                  · intro w97 hE
                    rintro _ rfl
                    intro RR
                    refine WL.move rfl rfl ?_
                    exact WL.done ⟨_, rfl, rfl, rfl, (fun h => absurd h (by decide)), (fun j h => by cases h)⟩
                  · intro w98 hE
                    rintro _ rfl
                    intro RR
                    refine WL.take rfl ?_
                    refine WL.move rfl rfl ?_
                    exact WL.done ⟨_, rfl, rfl, rfl, (fun h => absurd h (by decide)), (fun j h => by cases h)⟩
                  · intro w99 hE
                    rintro _ rfl
                    rintro _ rfl
                    intro RR
                    refine WL.take rfl ?_
                    refine WL.len Try.underlying22 rfl rfl ?_
                    exact WL.done ⟨_, rfl, rfl, rfl, (fun h => absurd h (by decide)), (fun j h => by cases h)⟩
                  · intro w100 hE
                    rintro _ rfl
                    intro RR
                    refine WL.take rfl ?_
                    refine WL.move rfl rfl ?_
                    exact WL.done ⟨_, rfl, rfl, rfl, (fun h => absurd h (by decide)), (fun j h => by cases h)⟩
                  · intro w101 hE
                    rintro _ rfl
                    rintro _ rfl
                    intro RR
                    refine WL.take rfl ?_
                    refine WL.len Try.underlying22 rfl rfl ?_
                    exact WL.done ⟨_, rfl, rfl, rfl, (fun h => absurd h (by decide)), (fun j h => by cases h)⟩
                  · intro w102 hE
                    rintro _ rfl
                    rintro _ rfl
                    rintro _ rfl
                    intro RR
                    refine WL.take rfl ?_
                    refine WL.eqlD rfl rfl rfl ?_; rw [decide_eq_true g45]
                    exact WL.done ⟨_, rfl, rfl, rfl, (fun h => absurd h (by decide)), (fun j h => by cases h)⟩
                  · intro w103 hE
                    rintro _ rfl
                    rintro _ rfl
                    intro RR
                    refine WL.pick rfl rfl rfl ?_
                    exact WL.done ⟨_, rfl, rfl, rfl, (fun h => absurd h (by decide)), (fun j h => by cases h)⟩
                  · intro w104 hE
                    rintro _ rfl
                    intro RR
                    refine WL.move rfl rfl ?_
                    exact WL.done ⟨_, rfl, rfl, rfl, (fun h => absurd h (by decide)), (fun j h => by cases h)⟩
                  · intro w105 hE
                    rintro _ rfl
                    intro RR
                    refine WL.take rfl ?_
                    refine WL.move rfl rfl ?_
                    exact WL.done ⟨_, rfl, rfl, rfl, (fun h => absurd h (by decide)), (fun j h => by cases h)⟩
                  · intro w106 hE
                    rintro _ rfl
                    intro RR
                    refine WL.take rfl ?_
                    refine WL.move rfl rfl ?_
                    exact WL.done ⟨_, rfl, rfl, rfl, (fun h => absurd h (by decide)), (fun j h => by cases h)⟩
                  · intro w107 hE
                    rintro _ rfl
                    rintro _ rfl
                    intro RR
                    refine WL.take rfl ?_
                    refine WL.len Try.underlying22 rfl rfl ?_
                    exact WL.done ⟨_, rfl, rfl, rfl, (fun h => absurd h (by decide)), (fun j h => by cases h)⟩
                  · intro w108 hE
                    rintro _ rfl
                    rintro _ rfl
                    intro RR
                    refine WL.take rfl ?_
                    refine WL.sub (r := (((x32.length : Nat) : Int) - (1 : Int))) rfl rfl (wr o109) rfl ?_
                    exact WL.done ⟨_, rfl, rfl, rfl, (fun h => absurd h (by decide)), (fun j h => by cases h)⟩
                  · intro w110 hE
                    rintro _ rfl
                    rintro _ rfl
                    rintro _ rfl
                    intro RR
                    refine WL.take rfl ?_
                    refine SL.index Try.underlying22 Try.el3 (hS.rd (i := 1) rfl) rfl rfl o111 rfl ?_
                    exact WL.done ⟨_, rfl, rfl, rfl, (fun h => absurd h (by decide)), (fun j h => by cases h)⟩
                  · intro w112 hE
                    have hE := hE rfl
                    have hS := hS.grow hE
                    rintro _ rfl
                    rintro _ rfl
                    intro RR
                    refine WL.take rfl ?_
                    refine WL.load Try.underlying3 rfl rfl (Rd.gi (hS.rd (i := 1) rfl) o111) rfl ?_
                    exact WL.done ⟨_, rfl, ext_refl _, rfl, (fun h => absurd h (by decide)), (fun j h => by cases h)⟩
                  · intro w113 hE
                    rintro _ rfl
                    rintro _ rfl
                    intro RR
                    refine WL.take rfl ?_
                    refine WL.eqlD rfl rfl rfl ?_; rw [decide_eq_false g46]
                    exact WL.done ⟨_, rfl, rfl, rfl, (fun h => absurd h (by decide)), (fun j h => by cases h)⟩
                  · intro w114 hE
                    rintro _ rfl
                    rintro _ rfl
                    intro RR
                    refine WL.pick rfl rfl rfl ?_
                    exact WL.done ⟨_, rfl, rfl, rfl, (fun h => absurd h (by decide)), (fun j h => by cases h)⟩
                  · intro w115 hE
                    rintro _ rfl
                    intro RR
                    refine WL.move rfl rfl ?_
                    exact WL.done ⟨_, rfl, rfl, rfl, (fun h => absurd h (by decide)), (fun j h => by cases h)⟩
                  · intro w116 hE
                    have hE := hE rfl
                    have hS := hS.grow hE
                    rintro _ rfl
                    intro RR
                    refine WL.pass rfl rfl rfl ?_
                    exact WL.done ⟨_, rfl, ext_refl _, rfl, (fun h => absurd h (by decide)), (fun j h => by cases h)⟩
                  · intro w117 hE
                    rintro _ rfl
                    intro RR
                    refine WL.pass rfl rfl rfl ?_
                    exact WL.done ⟨_, rfl, rfl, rfl, (fun h => absurd h (by decide)), (fun j h => by cases h)⟩
                  · intro w118 hE
                    rintro _ rfl
                    intro RR
                    refine WL.pass rfl rfl rfl ?_
                    exact WL.done ⟨_, rfl, rfl, rfl, (fun h => absurd h (by decide)), (fun j h => by cases h)⟩
                  · intro w119 hE
                    rintro _ rfl
                    rintro _ rfl
                    intro RR
                    refine WL.pass rfl rfl rfl ?_
                    exact WL.done ⟨_, rfl, rfl, rfl, (fun h => absurd h (by decide)), (fun j h => by cases h)⟩
                  · intro w120 hE
                    rintro _ rfl
                    rintro _ rfl
                    intro RR
                    refine WL.pass rfl rfl rfl ?_
                    exact WL.done ⟨_, rfl, rfl, rfl, (fun h => absurd h (by decide)), (fun j h => by cases h)⟩
                  · intro w121 hE
                    rintro _ rfl
                    rintro _ rfl
                    rintro _ rfl
                    intro RR
                    refine WL.pass rfl rfl rfl ?_
                    exact WL.done ⟨_, rfl, rfl, rfl, (fun h => absurd h (by decide)), (fun j h => by cases h)⟩
                  · intro w122 hE
                    have hE := hE rfl
                    have hS := hS.grow hE
                    rintro _ rfl
                    rintro _ rfl
                    intro RR
                    refine WL.pass rfl rfl rfl ?_
                    exact WL.done ⟨_, rfl, ext_refl _, rfl, (fun h => absurd h (by decide)), (fun j h => by cases h)⟩
                  · intro w123 hE
                    rintro _ rfl
                    intro RR
                    refine WL.pass rfl rfl rfl ?_
                    exact WL.done ⟨_, rfl, rfl, rfl, (fun h => absurd h (by decide)), (fun j h => by cases h)⟩
                  · intro w124 hE
                    have hE := hE rfl
                    have hS := hS.grow hE
                    rintro _ rfl
                    rintro _ rfl
                    rintro _ rfl
                    rintro _ rfl
                    intro RR
                    refine WL.pass rfl rfl rfl ?_
                    exact WL.done ⟨_, rfl, ext_refl _, rfl, (fun h => absurd h (by decide)), (fun j h => by cases h)⟩
                  · intro w125 hE
                    rintro _ rfl
                    intro RR
                    refine WL.pass rfl rfl rfl ?_
                    exact WL.done ⟨_, rfl, rfl, rfl, (fun h => absurd h (by decide)), (fun j h => by cases h)⟩
                  · intro w126 hE
                    have hE := hE rfl
                    have hS := hS.grow hE
                    rintro _ rfl
                    rintro _ rfl
                    rintro _ rfl
                    intro RR
                    refine WL.pass rfl rfl rfl ?_
                    exact WL.done ⟨_, rfl, ext_refl _, rfl, (fun h => absurd h (by decide)), (fun j h => by cases h)⟩
                  · intro w127 hE
                    rintro _ rfl
                    rintro _ rfl
                    intro RR
                    refine WL.pick rfl rfl rfl ?_
                    exact WL.done ⟨_, rfl, rfl, rfl, (fun h => absurd h (by decide)), (fun j h => by cases h)⟩
                  · intro w128 hE
                    rintro _ rfl
                    intro RR
                    refine WL.assign rfl rfl ?_
                    exact WL.done ⟨_, rfl, rfl, rfl, (fun h => absurd h (by decide)), (fun j h => by cases h)⟩
                · intro vals w129 hT hVs hAp hCp
                  have hS := hS.grow hT
                  have hv0 : vals 0 = _ := hVs 0 (by decide)
                  have hv1 : vals 1 = _ := hVs 1 (by decide)
                  have hv2 : vals 2 = _ := hVs 2 (by decide)
                  have hv3 : vals 3 = _ := hVs 3 (by decide)
                  have hv4 : vals 4 = _ := hVs 4 (by decide)
                  have hv5 : vals 5 = _ := hVs 5 (by decide)
                  have hv6 : vals 6 = _ := hVs 6 (by decide)
                  have hv7 : vals 7 = _ := hVs 7 (by decide)
                  have hv8 : vals 8 = _ := hVs 8 (by decide)
                  have hv9 : vals 9 = _ := hVs 9 (by decide)
                  have hv10 : vals 10 = _ := hVs 10 (by decide)
                  have hv11 : vals 11 = _ := hVs 11 (by decide)
                  have hv12 : vals 12 = _ := hVs 12 (by decide)
                  have hv13 : vals 13 = _ := hVs 13 (by decide)
                  have hv14 : vals 14 = _ := hVs 14 (by decide)
                  have hv15 : vals 15 = _ := hVs 15 (by decide)
                  have hv16 : vals 16 = _ := hVs 16 (by decide)
                  have hv17 : vals 17 = _ := hVs 17 (by decide)
                  have hv18 : vals 18 = _ := hVs 18 (by decide)
                  have hv19 : vals 19 = _ := hVs 19 (by decide)
                  have hv20 : vals 20 = _ := hVs 20 (by decide)
                  have hv21 : vals 21 = _ := hVs 21 (by decide)
                  have hv22 : vals 22 = _ := hVs 22 (by decide)
                  have hv23 : vals 23 = _ := hVs 23 (by decide)
                  have hv24 : vals 24 = _ := hVs 24 (by decide)
                  have hv25 : vals 25 = _ := hVs 25 (by decide)
                  have hv26 : vals 26 = _ := hVs 26 (by decide)
                  have hv27 : vals 27 = _ := hVs 27 (by decide)
                  have hv28 : vals 28 = _ := hVs 28 (by decide)
                  have hv29 : vals 29 = _ := hVs 29 (by decide)
                  have hv30 : vals 30 = _ := hVs 30 (by decide)
                  have hv31 : vals 31 = _ := hVs 31 (by decide)
                  rw [show (List.filterMap (fun i => Option.map (fun t => (t, vals i)) (dstAt _ i)) (List.range _)) = [(40, .int .i64 r36), (41, .bool true), (42, .bool true), (43, .slice A33 x32.length k34), (44, .int .i64 ((x32.length : Nat) : Int)), (45, .slice A39 x38.length k40), (46, .int .i64 ((x38.length : Nat) : Int)), (47, .bool true), (48, .bool true), (49, .bool true), (50, .slice A33 x32.length k34), (51, .slice A33 x32.length k34), (52, .int .i64 ((x32.length : Nat) : Int)), (53, .int .i64 (((x32.length : Nat) : Int) - (1 : Int))), (54, .pointer (some ((adOf A33).add ((((x32.length : Nat) : Int) - (1 : Int)).toNat)))), (55, .int .i64 (gi x32 (((x32.length : Nat) : Int) - (1 : Int)))), (56, .bool false), (57, .bool false), (58, .bool false), (59, undef), (60, undef), (61, undef), (62, undef), (63, undef), (64, undef), (65, undef), (66, undef), (67, undef), (68, undef), (69, undef), (70, .bool false), (4, .bool false)] from by
                    show [(40, vals 0), (41, vals 1), (42, vals 2), (43, vals 3), (44, vals 4), (45, vals 5), (46, vals 6), (47, vals 7), (48, vals 8), (49, vals 9), (50, vals 10), (51, vals 11), (52, vals 12), (53, vals 13), (54, vals 14), (55, vals 15), (56, vals 16), (57, vals 17), (58, vals 18), (59, vals 19), (60, vals 20), (61, vals 21), (62, vals 22), (63, vals 23), (64, vals 24), (65, vals 25), (66, vals 26), (67, vals 27), (68, vals 28), (69, vals 29), (70, vals 30), (4, vals 31)] = _
                    rw [hv0, hv1, hv2, hv3, hv4, hv5, hv6, hv7, hv8, hv9, hv10, hv11, hv12, hv13, hv14, hv15, hv16, hv17, hv18, hv19, hv20, hv21, hv22, hv23, hv24, hv25, hv26, hv27, hv28, hv29, hv30, hv31]]
                  refine WA.done (by decide +kernel) ?_
                  refine W.ret ?_
                  refine ⟨_, rfl, Fin.nil ?_⟩
                  exact ⟨_, hS.ext, (hS.pick [] rfl).rows, News.of (hS.pick [] rfl).rows rfl, ⟨false, rfl, rfl, hv⟩⟩
            · have hv := hv.2 g45
              have hS0 := hS
              refine W.drawX 32 (fun _ => false) (fun _ => none) [⟨[], [7], true⟩, ⟨[0], [], true⟩, ⟨[1], [], true⟩, ⟨[2], [6], true⟩, ⟨[2, 3], [], true⟩, ⟨[2], [8], true⟩, ⟨[2, 5], [], true⟩, ⟨[2, 4, 6], [], true⟩, ⟨[2, 7], [], true⟩, ⟨[8], [], true⟩, ⟨[9], [6], true⟩, ⟨[9], [6], true⟩, ⟨[9, 11], [], true⟩, ⟨[9, 12], [], true⟩, ⟨[9, 10, 13], [], true⟩, ⟨[9, 14], [], false⟩, ⟨[9, 15], [], true⟩, ⟨[9, 16], [], true⟩, ⟨[17], [], true⟩, ⟨[18], [2], false⟩, ⟨[18], [8], true⟩, ⟨[18], [8], true⟩, ⟨[18, 21], [], true⟩, ⟨[18, 22], [], true⟩, ⟨[18, 20, 23], [], true⟩, ⟨[18, 24], [], false⟩, ⟨[18], [6], true⟩, ⟨[18, 19, 25, 26], [], false⟩, ⟨[18], [8], true⟩, ⟨[18, 27, 28], [], false⟩, ⟨[18, 29], [], true⟩, ⟨[30], [], true⟩] [[(7, .int .i64 r36)], [], [], [(6, .slice A33 x32.length k34)], [], [(8, .slice A39 x38.length k40)], [], [], [], [], [(6, .slice A33 x32.length k34)], [(6, .slice A33 x32.length k34)], [], [], [], [], [], [], [], [(2, .pointer (some ⟨g11, 0, none⟩))], [(8, .slice A39 x38.length k40)], [(8, .slice A39 x38.length k40)], [], [], [], [], [(6, .slice A33 x32.length k34)], [], [(8, .slice A39 x38.length k40)], [], [], []] (fun iQ => [fun v _ => v = .int .i64 r36, fun v _ => v = .bool true, fun v _ => v = .bool true, fun v _ => v = .slice A33 x32.length k34, fun v _ => v = .int .i64 ((x32.length : Nat) : Int), fun v _ => v = .slice A39 x38.length k40, fun v _ => v = .int .i64 ((x38.length : Nat) : Int), fun v _ => v = .bool false, fun v _ => v = .bool false, fun v _ => v = .bool false, fun v _ => v = undef, fun v _ => v = undef, fun v _ => v = undef, fun v _ => v = undef, fun v _ => v = undef, fun v _ => v = undef, fun v _ => v = undef, fun v _ => v = .bool false, fun v _ => v = .bool false, fun v _ => v = undef, fun v _ => v = undef, fun v _ => v = undef, fun v _ => v = undef, fun v _ => v = undef, fun v _ => v = undef, fun v _ => v = undef, fun v _ => v = undef, fun v _ => v = undef, fun v _ => v = undef, fun v _ => v = undef, fun v _ => v = .bool false, fun v _ => v = .bool false].getD iQ (fun _ _ => True)) Try.mixed (by kernel_rfl) ?_ (by kernel_rfl) ?_ ?_
              · refine Vs_monoT _ ?_
                intro VQ hVQ vQ wQ1 wQ2 hQ1 hQ2
                simp only [List.mem_cons, List.not_mem_nil, or_false] at hVQ
                rcases hVQ with rfl | rfl | rfl | rfl | rfl | rfl | rfl | rfl | rfl | rfl | rfl | rfl | rfl | rfl | rfl | rfl | rfl | rfl | rfl | rfl | rfl | rfl | rfl | rfl | rfl | rfl | rfl | rfl | rfl | rfl | rfl | rfl
                · exact hQ1
                · exact hQ1
                · exact hQ1
                · exact hQ1
                · exact hQ1
                · exact hQ1
                · exact hQ1
                · exact hQ1
                · exact hQ1
                · exact hQ1
                · exact hQ1
                · exact hQ1
                · exact hQ1
                · exact hQ1
                · exact hQ1
                · exact hQ1
                · exact hQ1
                · exact hQ1
                · exact hQ1
                · exact hQ1
                · exact hQ1
                · exact hQ1
                · exact hQ1
                · exact hQ1
                · exact hQ1
                · exact hQ1
                · exact hQ1
                · exact hQ1
                · exact hQ1
                · exact hQ1
                · exact hQ1
                · exact hQ1
              · refine ⟨⟨rfl, ⟨rfl, trivial⟩, ?_⟩, ⟨rfl, trivial, ?_⟩, ⟨rfl, trivial, ?_⟩, ⟨rfl, ⟨rfl, trivial⟩, ?_⟩, ⟨rfl, trivial, ?_⟩, ⟨rfl, ⟨rfl, trivial⟩, ?_⟩, ⟨rfl, trivial, ?_⟩, ⟨rfl, trivial, ?_⟩, ⟨rfl, trivial, ?_⟩, ⟨rfl, trivial, ?_⟩, ⟨rfl, ⟨rfl, trivial⟩, ?_⟩, ⟨rfl, ⟨rfl, trivial⟩, ?_⟩, ⟨rfl, trivial, ?_⟩, ⟨rfl, trivial, ?_⟩, ⟨rfl, trivial, ?_⟩, ⟨rfl, trivial, ?_⟩, ⟨rfl, trivial, ?_⟩, ⟨rfl, trivial, ?_⟩, ⟨rfl, trivial, ?_⟩, ⟨rfl, ⟨rfl, trivial⟩, ?_⟩, ⟨rfl, ⟨rfl, trivial⟩, ?_⟩, ⟨rfl, ⟨rfl, trivial⟩, ?_⟩, ⟨rfl, trivial, ?_⟩, ⟨rfl, trivial, ?_⟩, ⟨rfl, trivial, ?_⟩, ⟨rfl, trivial, ?_⟩, ⟨rfl, ⟨rfl, trivial⟩, ?_⟩, ⟨rfl, trivial, ?_⟩, ⟨rfl, ⟨rfl, trivial⟩, ?_⟩, ⟨rfl, trivial, ?_⟩, ⟨rfl, trivial, ?_⟩, ⟨rfl, trivial, ?_⟩, trivial⟩
                · intro w130 hE
                  intro RR
                  refine WL.move rfl rfl ?_
                  exact WL.done ⟨_, rfl, rfl, rfl, (fun h => absurd h (by decide)), (fun j h => by cases h)⟩
                · intro w131 hE
                  rintro _ rfl
                  intro RR
                  refine WL.eqlD rfl rfl rfl ?_; rw [decide_eq_true g44]
                  exact WL.done ⟨_, rfl, rfl, rfl, (fun h => absurd h (by decide)), (fun j h => by cases h)⟩
                · intro w132 hE
                  rintro _ rfl
                  intro RR
                  refine WL.move rfl rfl ?_
                  exact WL.done ⟨_, rfl, rfl, rfl, (fun h => absurd h (by decide)), (fun j h => by cases h)⟩
                · intro w133 hE
                  rintro _ rfl
                  intro RR
                  refine WL.take rfl ?_
                  refine WL.move rfl rfl ?_
                  exact WL.done ⟨_, rfl, rfl, rfl, (fun h => absurd h (by decide)), (fun j h => by cases h)⟩
                · intro w134 hE
                  rintro _ rfl
                  rintro _ rfl
                  intro RR
                  refine WL.take rfl ?_
                  refine WL.len Try.underlying22 rfl rfl ?_
                  exact WL.done ⟨_, rfl, rfl, rfl, (fun h => absurd h (by decide)), (fun j h => by cases h)⟩
                · intro w135 hE
                  rintro _ rfl
                  intro RR
                  refine WL.take rfl ?_
                  refine WL.move rfl rfl ?_
                  exact WL.done ⟨_, rfl, rfl, rfl, (fun h => absurd h (by decide)), (fun j h => by cases h)⟩
                · intro w136 hE
                  rintro _ rfl
                  rintro _ rfl
                  intro RR
                  refine WL.take rfl ?_
                  refine WL.len Try.underlying22 rfl rfl ?_
                  exact WL.done ⟨_, rfl, rfl, rfl, (fun h => absurd h (by decide)), (fun j h => by cases h)⟩
                · intro w137 hE
                  rintro _ rfl
                  rintro _ rfl
                  rintro _ rfl
                  intro RR
                  refine WL.take rfl ?_
                  refine WL.eqlD rfl rfl rfl ?_; rw [decide_eq_false g45]
                  exact WL.done ⟨_, rfl, rfl, rfl, (fun h => absurd h (by decide)), (fun j h => by cases h)⟩
                · intro w138 hE
                  rintro _ rfl
                  rintro _ rfl
                  intro RR
                  refine WL.pick rfl rfl rfl ?_
                  exact WL.done ⟨_, rfl, rfl, rfl, (fun h => absurd h (by decide)), (fun j h => by cases h)⟩
                · intro w139 hE
                  rintro _ rfl
                  intro RR
                  refine WL.move rfl rfl ?_
                  exact WL.done ⟨_, rfl, rfl, rfl, (fun h => absurd h (by decide)), (fun j h => by cases h)⟩
                · intro w140 hE
                  rintro _ rfl
                  intro RR
                  refine WL.pass rfl rfl rfl ?_
                  exact WL.done ⟨_, rfl, rfl, rfl, (fun h => absurd h (by decide)), (fun j h => by cases h)⟩
                · intro w141 hE
                  rintro _ rfl
                  intro RR
                  refine WL.pass rfl rfl rfl ?_
                  exact WL.done ⟨_, rfl, rfl, rfl, (fun h => absurd h (by decide)), (fun j h => by cases h)⟩
                · intro w142 hE
                  rintro _ rfl
                  rintro _ rfl
                  intro RR
                  refine WL.pass rfl rfl rfl ?_
                  exact WL.done ⟨_, rfl, rfl, rfl, (fun h => absurd h (by decide)), (fun j h => by cases h)⟩
                · intro w143 hE
                  rintro _ rfl
                  rintro _ rfl
                  intro RR
                  refine WL.pass rfl rfl rfl ?_
                  exact WL.done ⟨_, rfl, rfl, rfl, (fun h => absurd h (by decide)), (fun j h => by cases h)⟩
                · intro w144 hE
                  rintro _ rfl
                  rintro _ rfl
                  rintro _ rfl
                  intro RR
                  refine WL.pass rfl rfl rfl ?_
                  exact WL.done ⟨_, rfl, rfl, rfl, (fun h => absurd h (by decide)), (fun j h => by cases h)⟩
                · intro w145 hE
                  have hE := hE rfl
                  have hS := hS.grow hE
                  rintro _ rfl
                  rintro _ rfl
                  intro RR
                  refine WL.pass rfl rfl rfl ?_
                  exact WL.done ⟨_, rfl, ext_refl _, rfl, (fun h => absurd h (by decide)), (fun j h => by cases h)⟩
                · intro w146 hE
                  rintro _ rfl
                  rintro _ rfl
                  intro RR
                  refine WL.pass rfl rfl rfl ?_
                  exact WL.done ⟨_, rfl, rfl, rfl, (fun h => absurd h (by decide)), (fun j h => by cases h)⟩
                · intro w147 hE
                  rintro _ rfl
                  rintro _ rfl
                  intro RR
                  refine WL.pick rfl rfl rfl ?_
                  exact WL.done ⟨_, rfl, rfl, rfl, (fun h => absurd h (by decide)), (fun j h => by cases h)⟩
                · intro w148 hE
                  rintro _ rfl
                  intro RR
                  refine WL.move rfl rfl ?_
                  exact WL.done ⟨_, rfl, rfl, rfl, (fun h => absurd h (by decide)), (fun j h => by cases h)⟩
                · intro w149 hE
                  have hE := hE rfl
                  have hS := hS.grow hE
                  rintro _ rfl
                  intro RR
                  refine WL.pass rfl rfl rfl ?_
                  exact WL.done ⟨_, rfl, ext_refl _, rfl, (fun h => absurd h (by decide)), (fun j h => by cases h)⟩
                · intro w150 hE
                  rintro _ rfl
                  intro RR
                  refine WL.pass rfl rfl rfl ?_
                  exact WL.done ⟨_, rfl, rfl, rfl, (fun h => absurd h (by decide)), (fun j h => by cases h)⟩
                · intro w151 hE
                  rintro _ rfl
                  intro RR
                  refine WL.pass rfl rfl rfl ?_
                  exact WL.done ⟨_, rfl, rfl, rfl, (fun h => absurd h (by decide)), (fun j h => by cases h)⟩
                · intro w152 hE
                  rintro _ rfl
                  rintro _ rfl
                  intro RR
                  refine WL.pass rfl rfl rfl ?_
                  exact WL.done ⟨_, rfl, rfl, rfl, (fun h => absurd h (by decide)), (fun j h => by cases h)⟩
                · intro w153 hE
                  rintro _ rfl
                  rintro _ rfl
                  intro RR
                  refine WL.pass rfl rfl rfl ?_
                  exact WL.done ⟨_, rfl, rfl, rfl, (fun h => absurd h (by decide)), (fun j h => by cases h)⟩
                · intro w154 hE
                  rintro _ rfl
                  rintro _ rfl
                  rintro _ rfl
                  intro RR
                  refine WL.pass rfl rfl rfl ?_
                  exact WL.done ⟨_, rfl, rfl, rfl, (fun h => absurd h (by decide)), (fun j h => by cases h)⟩
                · intro w155 hE
                  have hE := hE rfl
                  have hS := hS.grow hE
                  rintro _ rfl
                  rintro _ rfl
                  intro RR
                  refine WL.pass rfl rfl rfl ?_
                  exact WL.done ⟨_, rfl, ext_refl _, rfl, (fun h => absurd h (by decide)), (fun j h => by cases h)⟩
                · intro w156 hE
                  rintro _ rfl
                  intro RR
                  refine WL.pass rfl rfl rfl ?_
                  exact WL.done ⟨_, rfl, rfl, rfl, (fun h => absurd h (by decide)), (fun j h => by cases h)⟩
                · intro w157 hE
                  have hE := hE rfl
                  have hS := hS.grow hE
                  rintro _ rfl
                  rintro _ rfl
                  rintro _ rfl
                  rintro _ rfl
                  intro RR
                  refine WL.pass rfl rfl rfl ?_
                  exact WL.done ⟨_, rfl, ext_refl _, rfl, (fun h => absurd h (by decide)), (fun j h => by cases h)⟩
                · intro w158 hE
                  rintro _ rfl
                  intro RR
                  refine WL.pass rfl rfl rfl ?_
                  exact WL.done ⟨_, rfl, rfl, rfl, (fun h => absurd h (by decide)), (fun j h => by cases h)⟩
                · intro w159 hE
                  have hE := hE rfl
                  have hS := hS.grow hE
                  rintro _ rfl
                  rintro _ rfl
                  rintro _ rfl
                  intro RR
                  refine WL.pass rfl rfl rfl ?_
                  exact WL.done ⟨_, rfl, ext_refl _, rfl, (fun h => absurd h (by decide)), (fun j h => by cases h)⟩
                · intro w160 hE
                  rintro _ rfl
                  rintro _ rfl
                  intro RR
                  refine WL.pick rfl rfl rfl ?_
                  exact WL.done ⟨_, rfl, rfl, rfl, (fun h => absurd h (by decide)), (fun j h => by cases h)⟩
                · intro w161 hE
                  rintro _ rfl
                  intro RR
                  refine WL.assign rfl rfl ?_
                  exact WL.done ⟨_, rfl, rfl, rfl, (fun h => absurd h (by decide)), (fun j h => by cases h)⟩
              · intro vals w162 hT hVs hAp hCp
                have hS := hS.grow hT
                have hv0 : vals 0 = _ := hVs 0 (by decide)
                have hv1 : vals 1 = _ := hVs 1 (by decide)
                have hv2 : vals 2 = _ := hVs 2 (by decide)
                have hv3 : vals 3 = _ := hVs 3 (by decide)
                have hv4 : vals 4 = _ := hVs 4 (by decide)
                have hv5 : vals 5 = _ := hVs 5 (by decide)
                have hv6 : vals 6 = _ := hVs 6 (by decide)
                have hv7 : vals 7 = _ := hVs 7 (by decide)
                have hv8 : vals 8 = _ := hVs 8 (by decide)
                have hv9 : vals 9 = _ := hVs 9 (by decide)
                have hv10 : vals 10 = _ := hVs 10 (by decide)
                have hv11 : vals 11 = _ := hVs 11 (by decide)
                have hv12 : vals 12 = _ := hVs 12 (by decide)
                have hv13 : vals 13 = _ := hVs 13 (by decide)
                have hv14 : vals 14 = _ := hVs 14 (by decide)
                have hv15 : vals 15 = _ := hVs 15 (by decide)
                have hv16 : vals 16 = _ := hVs 16 (by decide)
                have hv17 : vals 17 = _ := hVs 17 (by decide)
                have hv18 : vals 18 = _ := hVs 18 (by decide)
                have hv19 : vals 19 = _ := hVs 19 (by decide)
                have hv20 : vals 20 = _ := hVs 20 (by decide)
                have hv21 : vals 21 = _ := hVs 21 (by decide)
                have hv22 : vals 22 = _ := hVs 22 (by decide)
                have hv23 : vals 23 = _ := hVs 23 (by decide)
                have hv24 : vals 24 = _ := hVs 24 (by decide)
                have hv25 : vals 25 = _ := hVs 25 (by decide)
                have hv26 : vals 26 = _ := hVs 26 (by decide)
                have hv27 : vals 27 = _ := hVs 27 (by decide)
                have hv28 : vals 28 = _ := hVs 28 (by decide)
                have hv29 : vals 29 = _ := hVs 29 (by decide)
                have hv30 : vals 30 = _ := hVs 30 (by decide)
                have hv31 : vals 31 = _ := hVs 31 (by decide)
                rw [show (List.filterMap (fun i => Option.map (fun t => (t, vals i)) (dstAt _ i)) (List.range _)) = [(40, .int .i64 r36), (41, .bool true), (42, .bool true), (43, .slice A33 x32.length k34), (44, .int .i64 ((x32.length : Nat) : Int)), (45, .slice A39 x38.length k40), (46, .int .i64 ((x38.length : Nat) : Int)), (47, .bool false), (48, .bool false), (49, .bool false), (50, undef), (51, undef), (52, undef), (53, undef), (54, undef), (55, undef), (56, undef), (57, .bool false), (58, .bool false), (59, undef), (60, undef), (61, undef), (62, undef), (63, undef), (64, undef), (65, undef), (66, undef), (67, undef), (68, undef), (69, undef), (70, .bool false), (4, .bool false)] from by
                  show [(40, vals 0), (41, vals 1), (42, vals 2), (43, vals 3), (44, vals 4), (45, vals 5), (46, vals 6), (47, vals 7), (48, vals 8), (49, vals 9), (50, vals 10), (51, vals 11), (52, vals 12), (53, vals 13), (54, vals 14), (55, vals 15), (56, vals 16), (57, vals 17), (58, vals 18), (59, vals 19), (60, vals 20), (61, vals 21), (62, vals 22), (63, vals 23), (64, vals 24), (65, vals 25), (66, vals 26), (67, vals 27), (68, vals 28), (69, vals 29), (70, vals 30), (4, vals 31)] = _
                  rw [hv0, hv1, hv2, hv3, hv4, hv5, hv6, hv7, hv8, hv9, hv10, hv11, hv12, hv13, hv14, hv15, hv16, hv17, hv18, hv19, hv20, hv21, hv22, hv23, hv24, hv25, hv26, hv27, hv28, hv29, hv30, hv31]]
                refine WA.done (by decide +kernel) ?_
                refine W.ret ?_
                refine ⟨_, rfl, Fin.nil ?_⟩
                exact ⟨_, hS.ext, (hS.pick [] rfl).rows, News.of (hS.pick [] rfl).rows rfl, ⟨false, rfl, rfl, hv⟩⟩
          · have hv := hv.2 g44
            have hS0 := hS
            refine W.drawX 32 (fun _ => false) (fun _ => none) [⟨[], [7], true⟩, ⟨[0], [], true⟩, ⟨[1], [], true⟩, ⟨[2], [6], true⟩, ⟨[2, 3], [], true⟩, ⟨[2], [8], true⟩, ⟨[2, 5], [], true⟩, ⟨[2, 4, 6], [], true⟩, ⟨[2, 7], [], true⟩, ⟨[8], [], true⟩, ⟨[9], [6], true⟩, ⟨[9], [6], true⟩, ⟨[9, 11], [], true⟩, ⟨[9, 12], [], true⟩, ⟨[9, 10, 13], [], true⟩, ⟨[9, 14], [], false⟩, ⟨[9, 15], [], true⟩, ⟨[9, 16], [], true⟩, ⟨[17], [], true⟩, ⟨[18], [2], false⟩, ⟨[18], [8], true⟩, ⟨[18], [8], true⟩, ⟨[18, 21], [], true⟩, ⟨[18, 22], [], true⟩, ⟨[18, 20, 23], [], true⟩, ⟨[18, 24], [], false⟩, ⟨[18], [6], true⟩, ⟨[18, 19, 25, 26], [], false⟩, ⟨[18], [8], true⟩, ⟨[18, 27, 28], [], false⟩, ⟨[18, 29], [], true⟩, ⟨[30], [], true⟩] [[(7, .int .i64 r36)], [], [], [(6, .slice A33 x32.length k34)], [], [(8, .slice A39 x38.length k40)], [], [], [], [], [(6, .slice A33 x32.length k34)], [(6, .slice A33 x32.length k34)], [], [], [], [], [], [], [], [(2, .pointer (some ⟨g11, 0, none⟩))], [(8, .slice A39 x38.length k40)], [(8, .slice A39 x38.length k40)], [], [], [], [], [(6, .slice A33 x32.length k34)], [], [(8, .slice A39 x38.length k40)], [], [], []] (fun iQ => [fun v _ => v = .int .i64 r36, fun v _ => v = .bool false, fun v _ => v = .bool false, fun v _ => v = undef, fun v _ => v = undef, fun v _ => v = undef, fun v _ => v = undef, fun v _ => v = undef, fun v _ => v = .bool false, fun v _ => v = .bool false, fun v _ => v = undef, fun v _ => v = undef, fun v _ => v = undef, fun v _ => v = undef, fun v _ => v = undef, fun v _ => v = undef, fun v _ => v = undef, fun v _ => v = .bool false, fun v _ => v = .bool false, fun v _ => v = undef, fun v _ => v = undef, fun v _ => v = undef, fun v _ => v = undef, fun v _ => v = undef, fun v _ => v = undef, fun v _ => v = undef, fun v _ => v = undef, fun v _ => v = undef, fun v _ => v = undef, fun v _ => v = undef, fun v _ => v = .bool false, fun v _ => v = .bool false].getD iQ (fun _ _ => True)) Try.mixed (by kernel_rfl) ?_ (by kernel_rfl) ?_ ?_
            · refine Vs_monoT _ ?_
              intro VQ hVQ vQ wQ1 wQ2 hQ1 hQ2
              simp only [List.mem_cons, List.not_mem_nil, or_false] at hVQ
              rcases hVQ with rfl | rfl | rfl | rfl | rfl | rfl | rfl | rfl | rfl | rfl | rfl | rfl | rfl | rfl | rfl | rfl | rfl | rfl | rfl | rfl | rfl | rfl | rfl | rfl | rfl | rfl | rfl | rfl | rfl | rfl | rfl | rfl
              · exact hQ1
              · exact hQ1
              · exact hQ1
              · exact hQ1
              · exact hQ1
              · exact hQ1
              · exact hQ1
              · exact hQ1
              · exact hQ1
              · exact hQ1
              · exact hQ1
              · exact hQ1
              · exact hQ1
              · exact hQ1
              · exact hQ1
              · exact hQ1
              · exact hQ1
              · exact hQ1
              · exact hQ1
              · exact hQ1
              · exact hQ1
              · exact hQ1
              · exact hQ1
              · exact hQ1
              · exact hQ1
              · exact hQ1
              · exact hQ1
              · exact hQ1
              · exact hQ1
              · exact hQ1
              · exact hQ1
              · exact hQ1
            · refine ⟨⟨rfl, ⟨rfl, trivial⟩, ?_⟩, ⟨rfl, trivial, ?_⟩, ⟨rfl, trivial, ?_⟩, ⟨rfl, ⟨rfl, trivial⟩, ?_⟩, ⟨rfl, trivial, ?_⟩, ⟨rfl, ⟨rfl, trivial⟩, ?_⟩, ⟨rfl, trivial, ?_⟩, ⟨rfl, trivial, ?_⟩, ⟨rfl, trivial, ?_⟩, ⟨rfl, trivial, ?_⟩, ⟨rfl, ⟨rfl, trivial⟩, ?_⟩, ⟨rfl, ⟨rfl, trivial⟩, ?_⟩, ⟨rfl, trivial, ?_⟩, ⟨rfl, trivial, ?_⟩, ⟨rfl, trivial, ?_⟩, ⟨rfl, trivial, ?_⟩, ⟨rfl, trivial, ?_⟩, ⟨rfl, trivial, ?_⟩, ⟨rfl, trivial, ?_⟩, ⟨rfl, ⟨rfl, trivial⟩, ?_⟩, ⟨rfl, ⟨rfl, trivial⟩, ?_⟩, ⟨rfl, ⟨rfl, trivial⟩, ?_⟩, ⟨rfl, trivial, ?_⟩, ⟨rfl, trivial, ?_⟩, ⟨rfl, trivial, ?_⟩, ⟨rfl, trivial, ?_⟩, ⟨rfl, ⟨rfl, trivial⟩, ?_⟩, ⟨rfl, trivial, ?_⟩, ⟨rfl, ⟨rfl, trivial⟩, ?_⟩, ⟨rfl, trivial, ?_⟩, ⟨rfl, trivial, ?_⟩, ⟨rfl, trivial, ?_⟩, trivial⟩
              · intro w163 hE
                intro RR
                refine WL.move rfl rfl ?_
                exact WL.done ⟨_, rfl, rfl, rfl, (fun h => absurd h (by decide)), (fun j h => by cases h)⟩
              · intro w164 hE
                rintro _ rfl
                intro RR
                refine WL.eqlD rfl rfl rfl ?_; rw [decide_eq_false g44]
                exact WL.done ⟨_, rfl, rfl, rfl, (fun h => absurd h (by decide)), (fun j h => by cases h)⟩
              · intro w165 hE
                rintro _ rfl
                intro RR
                refine WL.move rfl rfl ?_
                exact WL.done ⟨_, rfl, rfl, rfl, (fun h => absurd h (by decide)), (fun j h => by cases h)⟩
              · intro w166 hE
                rintro _ rfl
                intro RR
                refine WL.pass rfl rfl rfl ?_
                exact WL.done ⟨_, rfl, rfl, rfl, (fun h => absurd h (by decide)), (fun j h => by cases h)⟩
              · intro w167 hE
                rintro _ rfl
                rintro _ rfl
                intro RR
                refine WL.pass rfl rfl rfl ?_
                exact WL.done ⟨_, rfl, rfl, rfl, (fun h => absurd h (by decide)), (fun j h => by cases h)⟩
              · intro w168 hE
                rintro _ rfl
                intro RR
                refine WL.pass rfl rfl rfl ?_
                exact WL.done ⟨_, rfl, rfl, rfl, (fun h => absurd h (by decide)), (fun j h => by cases h)⟩
              · intro w169 hE
                rintro _ rfl
                rintro _ rfl
                intro RR
                refine WL.pass rfl rfl rfl ?_
                exact WL.done ⟨_, rfl, rfl, rfl, (fun h => absurd h (by decide)), (fun j h => by cases h)⟩
              · intro w170 hE
                rintro _ rfl
                rintro _ rfl
                rintro _ rfl
                intro RR
                refine WL.pass rfl rfl rfl ?_
                exact WL.done ⟨_, rfl, rfl, rfl, (fun h => absurd h (by decide)), (fun j h => by cases h)⟩
              · intro w171 hE
                rintro _ rfl
                rintro _ rfl
                intro RR
                refine WL.pick rfl rfl rfl ?_
                exact WL.done ⟨_, rfl, rfl, rfl, (fun h => absurd h (by decide)), (fun j h => by cases h)⟩
              · intro w172 hE
                rintro _ rfl
                intro RR
                refine WL.move rfl rfl ?_
                exact WL.done ⟨_, rfl, rfl, rfl, (fun h => absurd h (by decide)), (fun j h => by cases h)⟩
              · intro w173 hE
                rintro _ rfl
                intro RR
                refine WL.pass rfl rfl rfl ?_
                exact WL.done ⟨_, rfl, rfl, rfl, (fun h => absurd h (by decide)), (fun j h => by cases h)⟩
              · intro w174 hE
                rintro _ rfl
                intro RR
                refine WL.pass rfl rfl rfl ?_
                exact WL.done ⟨_, rfl, rfl, rfl, (fun h => absurd h (by decide)), (fun j h => by cases h)⟩
              · intro w175 hE
                rintro _ rfl
                rintro _ rfl
                intro RR
                refine WL.pass rfl rfl rfl ?_
                exact WL.done ⟨_, rfl, rfl, rfl, (fun h => absurd h (by decide)), (fun j h => by cases h)⟩
              · intro w176 hE
                rintro _ rfl
                rintro _ rfl
                intro RR
                refine WL.pass rfl rfl rfl ?_
                exact WL.done ⟨_, rfl, rfl, rfl, (fun h => absurd h (by decide)), (fun j h => by cases h)⟩
              · intro w177 hE
                rintro _ rfl
                rintro _ rfl
                rintro _ rfl
                intro RR
                refine WL.pass rfl rfl rfl ?_
                exact WL.done ⟨_, rfl, rfl, rfl, (fun h => absurd h (by decide)), (fun j h => by cases h)⟩
              · intro w178 hE
                have hE := hE rfl
                have hS := hS.grow hE
                rintro _ rfl
                rintro _ rfl
                intro RR
                refine WL.pass rfl rfl rfl ?_
                exact WL.done ⟨_, rfl, ext_refl _, rfl, (fun h => absurd h (by decide)), (fun j h => by cases h)⟩
              · intro w179 hE
                rintro _ rfl
                rintro _ rfl
                intro RR
                refine WL.pass rfl rfl rfl ?_
                exact WL.done ⟨_, rfl, rfl, rfl, (fun h => absurd h (by decide)), (fun j h => by cases h)⟩
              · intro w180 hE
                rintro _ rfl
                rintro _ rfl
                intro RR
                refine WL.pick rfl rfl rfl ?_
                exact WL.done ⟨_, rfl, rfl, rfl, (fun h => absurd h (by decide)), (fun j h => by cases h)⟩
              · intro w181 hE
                rintro _ rfl
                intro RR
                refine WL.move rfl rfl ?_
                exact WL.done ⟨_, rfl, rfl, rfl, (fun h => absurd h (by decide)), (fun j h => by cases h)⟩
              · intro w182 hE
                have hE := hE rfl
                have hS := hS.grow hE
                rintro _ rfl
                intro RR
                refine WL.pass rfl rfl rfl ?_
                exact WL.done ⟨_, rfl, ext_refl _, rfl, (fun h => absurd h (by decide)), (fun j h => by cases h)⟩
              · intro w183 hE
                rintro _ rfl
                intro RR
                refine WL.pass rfl rfl rfl ?_
                exact WL.done ⟨_, rfl, rfl, rfl, (fun h => absurd h (by decide)), (fun j h => by cases h)⟩
              · intro w184 hE
                rintro _ rfl
                intro RR
                refine WL.pass rfl rfl rfl ?_
                exact WL.done ⟨_, rfl, rfl, rfl, (fun h => absurd h (by decide)), (fun j h => by cases h)⟩
              · intro w185 hE
                rintro _ rfl
                rintro _ rfl
                intro RR
                refine WL.pass rfl rfl rfl ?_
                exact WL.done ⟨_, rfl, rfl, rfl, (fun h => absurd h (by decide)), (fun j h => by cases h)⟩
              · intro w186 hE
                rintro _ rfl
                rintro _ rfl
                intro RR
                refine WL.pass rfl rfl rfl ?_
                exact WL.done ⟨_, rfl, rfl, rfl, (fun h => absurd h (by decide)), (fun j h => by cases h)⟩
              · intro w187 hE
                rintro _ rfl
                rintro _ rfl
                rintro _ rfl
                intro RR
                refine WL.pass rfl rfl rfl ?_
                exact WL.done ⟨_, rfl, rfl, rfl, (fun h => absurd h (by decide)), (fun j h => by cases h)⟩
              · intro w188 hE
                have hE := hE rfl
                have hS := hS.grow hE
                rintro _ rfl
                rintro _ rfl
                intro RR
                refine WL.pass rfl rfl rfl ?_
                exact WL.done ⟨_, rfl, ext_refl _, rfl, (fun h => absurd h (by decide)), (fun j h => by cases h)⟩
              · intro w189 hE
                rintro _ rfl
                intro RR
                refine WL.pass rfl rfl rfl ?_
                exact WL.done ⟨_, rfl, rfl, rfl, (fun h => absurd h (by decide)), (fun j h => by cases h)⟩
              · intro w190 hE
                have hE := hE rfl
                have hS := hS.grow hE
                rintro _ rfl
                rintro _ rfl
                rintro _ rfl
                rintro _ rfl
                intro RR
                refine WL.pass rfl rfl rfl ?_
                exact WL.done ⟨_, rfl, ext_refl _, rfl, (fun h => absurd h (by decide)), (fun j h => by cases h)⟩
              · intro w191 hE
                rintro _ rfl
                intro RR
                refine WL.pass rfl rfl rfl ?_
                exact WL.done ⟨_, rfl, rfl, rfl, (fun h => absurd h (by decide)), (fun j h => by cases h)⟩
              · intro w192 hE
                have hE := hE rfl
                have hS := hS.grow hE
                rintro _ rfl
                rintro _ rfl
                rintro _ rfl
                intro RR
                refine WL.pass rfl rfl rfl ?_
                exact WL.done ⟨_, rfl, ext_refl _, rfl, (fun h => absurd h (by decide)), (fun j h => by cases h)⟩
              · intro w193 hE
                rintro _ rfl
                rintro _ rfl
                intro RR
                refine WL.pick rfl rfl rfl ?_
                exact WL.done ⟨_, rfl, rfl, rfl, (fun h => absurd h (by decide)), (fun j h => by cases h)⟩
              · intro w194 hE
                rintro _ rfl
                intro RR
                refine WL.assign rfl rfl ?_
                exact WL.done ⟨_, rfl, rfl, rfl, (fun h => absurd h (by decide)), (fun j h => by cases h)⟩
            · intro vals w195 hT hVs hAp hCp
              have hS := hS.grow hT
              have hv0 : vals 0 = _ := hVs 0 (by decide)
              have hv1 : vals 1 = _ := hVs 1 (by decide)
              have hv2 : vals 2 = _ := hVs 2 (by decide)
              have hv3 : vals 3 = _ := hVs 3 (by decide)
              have hv4 : vals 4 = _ := hVs 4 (by decide)
              have hv5 : vals 5 = _ := hVs 5 (by decide)
              have hv6 : vals 6 = _ := hVs 6 (by decide)
              have hv7 : vals 7 = _ := hVs 7 (by decide)
              have hv8 : vals 8 = _ := hVs 8 (by decide)
              have hv9 : vals 9 = _ := hVs 9 (by decide)
              have hv10 : vals 10 = _ := hVs 10 (by decide)
              have hv11 : vals 11 = _ := hVs 11 (by decide)
              have hv12 : vals 12 = _ := hVs 12 (by decide)
              have hv13 : vals 13 = _ := hVs 13 (by decide)
              have hv14 : vals 14 = _ := hVs 14 (by decide)
              have hv15 : vals 15 = _ := hVs 15 (by decide)
              have hv16 : vals 16 = _ := hVs 16 (by decide)
              have hv17 : vals 17 = _ := hVs 17 (by decide)
              have hv18 : vals 18 = _ := hVs 18 (by decide)
              have hv19 : vals 19 = _ := hVs 19 (by decide)
              have hv20 : vals 20 = _ := hVs 20 (by decide)
              have hv21 : vals 21 = _ := hVs 21 (by decide)
              have hv22 : vals 22 = _ := hVs 22 (by decide)
              have hv23 : vals 23 = _ := hVs 23 (by decide)
              have hv24 : vals 24 = _ := hVs 24 (by decide)
              have hv25 : vals 25 = _ := hVs 25 (by decide)
              have hv26 : vals 26 = _ := hVs 26 (by decide)
              have hv27 : vals 27 = _ := hVs 27 (by decide)
              have hv28 : vals 28 = _ := hVs 28 (by decide)
              have hv29 : vals 29 = _ := hVs 29 (by decide)
              have hv30 : vals 30 = _ := hVs 30 (by decide)
              have hv31 : vals 31 = _ := hVs 31 (by decide)
              rw [show (List.filterMap (fun i => Option.map (fun t => (t, vals i)) (dstAt _ i)) (List.range _)) = [(40, .int .i64 r36), (41, .bool false), (42, .bool false), (43, undef), (44, undef), (45, undef), (46, undef), (47, undef), (48, .bool false), (49, .bool false), (50, undef), (51, undef), (52, undef), (53, undef), (54, undef), (55, undef), (56, undef), (57, .bool false), (58, .bool false), (59, undef), (60, undef), (61, undef), (62, undef), (63, undef), (64, undef), (65, undef), (66, undef), (67, undef), (68, undef), (69, undef), (70, .bool false), (4, .bool false)] from by
                show [(40, vals 0), (41, vals 1), (42, vals 2), (43, vals 3), (44, vals 4), (45, vals 5), (46, vals 6), (47, vals 7), (48, vals 8), (49, vals 9), (50, vals 10), (51, vals 11), (52, vals 12), (53, vals 13), (54, vals 14), (55, vals 15), (56, vals 16), (57, vals 17), (58, vals 18), (59, vals 19), (60, vals 20), (61, vals 21), (62, vals 22), (63, vals 23), (64, vals 24), (65, vals 25), (66, vals 26), (67, vals 27), (68, vals 28), (69, vals 29), (70, vals 30), (4, vals 31)] = _
                rw [hv0, hv1, hv2, hv3, hv4, hv5, hv6, hv7, hv8, hv9, hv10, hv11, hv12, hv13, hv14, hv15, hv16, hv17, hv18, hv19, hv20, hv21, hv22, hv23, hv24, hv25, hv26, hv27, hv28, hv29, hv30, hv31]]
              refine WA.done (by decide +kernel) ?_
              refine W.ret ?_
              refine ⟨_, rfl, Fin.nil ?_⟩
              exact ⟨_, hS.ext, (hS.pick [] rfl).rows, News.of (hS.pick [] rfl).rows rfl, ⟨false, rfl, rfl, hv⟩⟩

end Go.Proofs.Ytmdigamgojfjdaa
set_option linter.unusedVariables false
set_option linter.unusedSimpArgs false
namespace Go.Proofs.Ytmdigamgojfjdaa
open Ks
/-! ### products, quotients, greatest common divisors -/
section
variable {k : Ks} {F : GFv} {P M : Int} {mf : List Int}
theorem w_pmonic {p : List Int} {Q : List Int × Int → Prop} (K : GFk F k.p k.m k.v k.g) (hp : p.length ≤ 1000) (h0 : k.pol p = 0 → Q ([], 7)) (h1 : ∀ d, Dg (k.pol p) d → Q (k.L (ct (inv_ (k.pol p d)) * k.pol p), 0)) : V_pmonic F p Q := by
  have hc := L_len (pol_su (k := k) p)
  refine w_canon K (by omega) ⟨fun e => h0 ((L_len0 (pol_fs p)).1 (by omega)), fun e => ?_⟩
  obtain ⟨d, hd⟩ : ∃ d, Dg (k.pol p) d := ⟨_, (L_rp (pol_fs p)).dg (by omega)⟩
  refine ⟨small (by omega) (by omega), ⟨by omega, by omega⟩, ?_⟩
  rw [L_top hd]
  refine w_Inv K (fun e2 => ?_) fun e2 => ?_
  · rw [el_co] at e2; exact absurd e2 hd.1
  · rw [el_co]
    refine w_scaleL K (pol_fs p) (by omega) (by rw [el_co]; exact inv_ne hd.1) ?_
    rw [el_co]; exact h1 d hd
end
end Go.Proofs.Ytmdigamgojfjdaa
set_option linter.unusedVariables false
set_option linter.unusedSimpArgs false
namespace Go.Proofs.Ytmdigamgojfjdaa
open Ks
/-! ### the laws -/
section
variable {k : Ks} {F : GFv} {P M : Int} {mf : List Int}
theorem t0 {A B : Prop} (h : A) : ((0 : Int) = 0 → A) ∧ (¬ ((0 : Int) = 0) → B) := ⟨fun _ => h, fun e => absurd rfl e⟩
theorem w_short1 {p : List Int} {A B : Prop} (h : A) (h1 : p.length ≤ 24 → B) : V_short [p] (fun r => ((!r) = true → A) ∧ ((!r) = false → B)) :=
  w_short (by simp) ⟨fun _ => h, fun e => absurd e (by decide)⟩ fun hs => nb (h1 (hs 0 (by simp)))
theorem law_PolyMonic (p : List Int) : V_PolyMonic P M mf p (fun b => b = true) := by
  refine w_alive ⟨fun h => absurd h (by decide), fun _ => w_made (fun _ => rfl) fun F k K hF => w_short1 rfl fun hp => ?_⟩
  have hl := L_len (pol_su (k := k) p)
  refine w_pmonic K (by omega) (fun h0 => w_rcanon hF (by omega) ⟨fun _ => ⟨fun _ => rfl, fun h => absurd rfl h⟩, fun h => absurd (by rw [(L_len0 (pol_fs p)).2 h0]; rfl) h⟩) fun d hd => w_rcanon hF (by omega) ?_
  have hd2 := hd.ct (inv_ne hd.1)
  have h1 := L_dg (k := k) hd
  have h2 := L_dg (k := k) hd2
  have e1 : gi (k.L (ct (inv_ (k.pol p d)) * k.pol p)) ((((k.L (ct (inv_ (k.pol p d)) * k.pol p)).length : Nat) : Int) - 1) = 1 := by
    rw [L_top hd2, ct_mul, Cr.mul_comm, mul_inv hd.1]; rfl
  refine ⟨fun h => by omega, fun _ => t0 ⟨fun _ => ⟨fun _ => ⟨small (by omega) (by omega), ⟨by omega, by omega⟩, small (by omega) (by omega), ⟨by omega, by omega⟩, _, w_rpscale (k := k) hF (by omega) rfl, _, w_same ?_ ?_ rfl, rfl⟩, fun h => absurd e1 h⟩, fun h => absurd (by rw [h1, h2]) h⟩⟩
  all_goals rw [L_top hd, el_co, pol_L hd2.fs, ct_inv hd]
  omega
end
end Go.Proofs.Ytmdigamgojfjdaa
