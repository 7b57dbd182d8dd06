/- What only this law leans on. -/
import Derived.Test.YtmdigamgojfjdaaPolyAddsG12
set_option linter.unusedSimpArgs false
set_option linter.unusedVariables false
namespace Go.Proofs.Ytmdigamgojfjdaa
open Go.RowKit
def V_PolyRemainders (Pf : Int) (Mf : Int) (mf : List Int) (p : List Int) (a : Int) (Q : Bool → Prop) : Prop :=
  V_alive  (fun r14 => (((!r14) = true) → Q false) ∧ ((!r14) = false → (V_made Pf Mf mf (fun q => match q with | none => Q true | some F19 => V_short ([p] : List (List Int)) (fun r29 => (((!r29) = true) → Q true) ∧ ((!r29) = false → (V_fromRoots F19 ([a] : List Int) (fun x35 => V_pdivmod F19 p x35 (fun q => match q with | (x40, x44, r48) => V_eval F19 p a (fun r50 => ((r50 = (0 : Int)) → (((r48 = (0 : Int)) → (Q (decide (((x44.length : Nat) : Int) = (0 : Int))))) ∧ (¬ (r48 = (0 : Int)) → Q false))) ∧ (¬ (r50 = (0 : Int)) → (((r48 = (0 : Int)) → (V_lsame x44 ([r50] : List Int) (fun r58 => Q r58))) ∧ (¬ (r48 = (0 : Int)) → Q false)))))))))))))
theorem ok_PolyRemainders {w : World} {Q : Bool → Prop} {Pf : Int} {Mf : Int} {mf : List Int} {p : List Int} {a : Int} {Bf : Nat} {Af : Option Addr} {nf kf : Nat} (hf : Rd Bf w 1 Af nf kf (is mf)) {Bp : Nat} {Ap : Option Addr} {np kp : Nat} (hp : Rd Bp w 1 Ap np kp (is p)) (hv : V_PolyRemainders Pf Mf mf p a Q) :
    Calls Try.prog 12 #[.agg #[.int .i64 Pf, .int .i64 Mf, .slice Af nf kf], .slice Ap np kp, .int .i64 a] w fun e w' => ∃ v Qr, e = .returned v ∧ w.grownBy w' none ∧ Rows w.heap.size none w' Qr ∧ News w.heap.size Qr ∧ ∃ (r0 : Bool), v = .bool r0 ∧ Qr = [] ∧ Q r0 := by
  have hnf := hf.ilen
  subst hnf
  have hnp := hp.ilen
  subst hnp
  refine calls_swap ?_
  refine calls_of_W (vs := [.agg #[.int .i64 Pf, .int .i64 Mf, .slice Af mf.length kf], .slice Ap p.length kp, .int .i64 a]) [6] Try.func12 rfl rfl rfl rfl ?_
  have hS := St.start w
  unfold V_PolyRemainders at hv
  refine W.seq ?_
  refine W.region ?_
  refine SL.box (z := 3) (cs := [.int .i64 Pf, .int .i64 Mf, .slice Af mf.length kf]) hS rfl rfl rfl rfl ?_
  intro g11 w12 hS
  refine WL.assign rfl rfl ?_
  refine WL.done ?_
  refine W.seq ?_
  refine W.seq ?_
  refine W.region ?_
  refine SL.call hS (ok_alive  hv) Try.func20 rfl Try.nm20 rfl rfl ?_
  rintro _ _ w13 ⟨r14, rfl, rfl, hv⟩ hGw13 hS
  change St _ _ _ _ [.row 24 3 (some ⟨g11, 0, none⟩) 1 1 [.int .i64 Pf, .int .i64 Mf, .slice Af mf.length kf]] at hS
  refine WL.not rfl rfl ?_
  refine WL.done ?_
  refine W.cond2 rfl (fun c15 => ?_) (fun c15 => ?_)
  · have hv := hv.1 (c15)
    refine W.seq ?_
    refine W.region ?_
    refine WL.assign rfl rfl ?_
    refine WL.done ?_
    refine W.ret ?_
    refine ⟨_, rfl, Fin.nil ?_⟩
    exact ⟨_, hS.ext, (hS.pick [] rfl).rows, News.of (hS.pick [] rfl).rows rfl, ⟨false, rfl, rfl, hv⟩⟩
  · have hv := hv.2 (c15)
    refine W.skip ?_
    refine W.seq ?_
    refine W.region ?_
    refine WL.loadV (cs := [.int .i64 Pf, .int .i64 Mf, .slice Af mf.length kf]) Try.el24 Try.agg24 rfl rfl (Own.vcells (hS.own (i := 0) rfl)) rfl ?_
    refine SL.call hS (ok_made (hS.ro hf) hv) Try.func21 rfl Try.nm21 rfl rfl ?_
    rintro _ _ w17 ⟨o, hv, hK⟩ hGw17 hS
    cases o with
    | none =>
      obtain ⟨rfl, rfl⟩ := hK
      change St _ _ _ _ [.row 24 3 (some ⟨g11, 0, none⟩) 1 1 [.int .i64 Pf, .int .i64 Mf, .slice Af mf.length kf]] at hS
      refine WL.assign rfl rfl ?_
      refine WL.done ?_
      refine W.seq ?_
      refine W.seq ?_
      refine W.region ?_
      refine WL.move rfl rfl ?_
      refine WL.eqlPn Try.underlying26 rfl rfl rfl rfl ?_
      refine WL.move rfl rfl ?_
      refine WL.pass rfl rfl rfl ?_
      refine WL.pass rfl rfl rfl ?_
      refine WL.pass rfl rfl rfl ?_
      refine WL.pass rfl rfl rfl ?_
      refine WL.pick rfl rfl rfl ?_
      refine WL.done ?_
      refine W.condT rfl ?_
      refine W.seq ?_
      refine W.region ?_
      refine WL.assign rfl rfl ?_
      refine WL.done ?_
      refine W.ret ?_
      refine ⟨_, rfl, Fin.nil ?_⟩
      exact ⟨_, hS.ext, (hS.pick [] rfl).rows, News.of (hS.pick [] rfl).rows rfl, ⟨true, rfl, rfl, hv⟩⟩
    | some F19 =>
      obtain ⟨ad20, lo21, hi22, rfl, rfl⟩ := hK
      change St _ _ _ _ [.ch lo21 hi22 (fun wz => GFX lo21 hi22 wz ad20 F19), .row 24 3 (some ⟨g11, 0, none⟩) 1 1 [.int .i64 Pf, .int .i64 Mf, .slice Af mf.length kf]] at hS
      refine WL.assign rfl rfl ?_
      refine WL.done ?_
      refine W.seq ?_
      refine W.seq ?_
      refine W.region ?_
      refine WL.move rfl rfl ?_
      refine WL.eqlPn Try.underlying26 rfl rfl rfl rfl ?_
      refine WL.move rfl rfl ?_
      refine WL.take rfl ?_
      refine WL.move rfl rfl ?_
      refine WL.take rfl ?_
      refine SL.lit1 (vs := [.slice Ap p.length kp]) hS Try.underlying37 Try.el22 rfl rfl rfl rfl (by simp [Value.oneCell']) rfl ?_
      intro A25 w26 hS
      refine WL.take rfl ?_
      refine SL.call hS (ok_short (ls := ([p] : List (List Int))) ⟨_, _, (hS.rd (i := 0) rfl), ⟨⟨_, _, _, rfl, (Rd.is_m (hS.ro hp))⟩, trivial⟩⟩ hv) Try.func26 rfl Try.nm26 rfl rfl ?_
      rintro _ _ w28 ⟨r29, rfl, rfl, hv⟩ hGw28 hS
      change St _ _ _ _ [.row 22 1 A25 1 1 [.slice Ap p.length kp], .ch lo21 hi22 (fun wz => GFX lo21 hi22 wz ad20 F19), .row 24 3 (some ⟨g11, 0, none⟩) 1 1 [.int .i64 Pf, .int .i64 Mf, .slice Af mf.length kf]] at hS
      refine WL.take rfl ?_
      refine WL.not rfl rfl ?_
      refine WL.pick rfl rfl rfl ?_
      refine WL.done ?_
      refine W.cond2 rfl (fun c30 => ?_) (fun c30 => ?_)
      · have hv := hv.1 (c30)
        refine W.seq ?_
        refine W.region ?_
        refine WL.assign rfl rfl ?_
        refine WL.done ?_
        refine W.ret ?_
        refine ⟨_, rfl, Fin.nil ?_⟩
        exact ⟨_, hS.ext, (hS.pick [] rfl).rows, News.of (hS.pick [] rfl).rows rfl, ⟨true, rfl, rfl, hv⟩⟩
      · have hv := hv.2 (c30)
        refine W.skip ?_
        refine W.seq ?_
        refine W.region ?_
        refine WL.move rfl rfl ?_
        refine WL.move rfl rfl ?_
        refine WL.move rfl rfl ?_
        refine WL.move rfl rfl ?_
        refine SL.lit1 (vs := is ([a] : List Int)) hS Try.underlying22 Try.el3 rfl rfl rfl rfl (is_one _) rfl ?_
        intro A31 w32 hS
        refine SL.call hS (ok_fromRoots (GFX.gfr (hS.chunk (i := 2) rfl)) (hS.rd (i := 0) rfl) hv) Try.func48 rfl Try.nm48 rfl rfl ?_
        rintro _ _ w34 ⟨x35, A36, k37, rfl, rfl, hv⟩ hGw34 hS
        change St _ _ _ _ [.row 3 1 A36 x35.length k37 (is x35), .row 3 1 A31 1 1 (is ([a] : List Int)), .row 22 1 A25 1 1 [.slice Ap p.length kp], .ch lo21 hi22 (fun wz => GFX lo21 hi22 wz ad20 F19), .row 24 3 (some ⟨g11, 0, none⟩) 1 1 [.int .i64 Pf, .int .i64 Mf, .slice Af mf.length kf]] at hS
        refine SL.call hS (ok_pdivmod (GFX.gfr (hS.chunk (i := 3) rfl)) (hS.ro hp) (hS.rd (i := 0) rfl) hv) Try.func37 rfl Try.nm37 rfl rfl ?_
        rintro _ _ w39 ⟨x40, x44, r48, A41, k42, A45, k46, rfl, rfl, hv⟩ hGw39 hS
        change St _ _ _ _ [.row 3 1 A41 x40.length k42 (is x40), .row 3 1 A45 x44.length k46 (is x44), .row 3 1 A36 x35.length k37 (is x35), .row 3 1 A31 1 1 (is ([a] : List Int)), .row 22 1 A25 1 1 [.slice Ap p.length kp], .ch lo21 hi22 (fun wz => GFX lo21 hi22 wz ad20 F19), .row 24 3 (some ⟨g11, 0, none⟩) 1 1 [.int .i64 Pf, .int .i64 Mf, .slice Af mf.length kf]] at hS
        refine WL.move rfl rfl ?_
        refine WL.extract rfl rfl rfl ?_
        refine WL.extract rfl rfl rfl ?_
        refine WL.extract rfl rfl rfl ?_
        refine WL.assign rfl rfl ?_
        refine WL.assign rfl rfl ?_
        refine WL.assign rfl rfl ?_
        refine WL.done ?_
        refine W.seq ?_
        refine W.region ?_
        refine WL.move rfl rfl ?_
        refine WL.move rfl rfl ?_
        refine WL.move rfl rfl ?_
        refine SL.call hS (ok_eval (GFX.gfr (hS.chunk (i := 5) rfl)) (hS.ro hp) hv) Try.func44 rfl Try.nm44 rfl rfl ?_
        rintro _ _ w49 ⟨r50, rfl, rfl, hv⟩ hGw49 hS
        change St _ _ _ _ [.row 3 1 A41 x40.length k42 (is x40), .row 3 1 A45 x44.length k46 (is x44), .row 3 1 A36 x35.length k37 (is x35), .row 3 1 A31 1 1 (is ([a] : List Int)), .row 22 1 A25 1 1 [.slice Ap p.length kp], .ch lo21 hi22 (fun wz => GFX lo21 hi22 wz ad20 F19), .row 24 3 (some ⟨g11, 0, none⟩) 1 1 [.int .i64 Pf, .int .i64 Mf, .slice Af mf.length kf]] at hS
        refine WL.assign rfl rfl ?_
        refine WL.done ?_
        refine W.seq ?_
        refine W.seq ?_
        refine W.region ?_
        refine WL.move rfl rfl ?_
        refine WL.eqlD rfl rfl rfl ?_
        refine WL.done ?_
        refine W.cond2 rfl (fun c51 => ?_) (fun c51 => ?_)
        · have hv := hv.1 (of_decide_eq_true c51)
          refine W.seq ?_
          refine W.region ?_
          refine WL.move rfl rfl ?_
          refine WL.eqlD rfl rfl rfl ?_
          refine WL.move rfl rfl ?_
          by_cases g52 : r48 = (0 : Int)
          · have hv := hv.1 g52
            rw [decide_eq_true g52]
            refine WL.take rfl ?_
            refine WL.move rfl rfl ?_
            refine WL.take rfl ?_
            refine WL.len Try.underlying22 rfl rfl ?_
            refine WL.take rfl ?_
            refine WL.eqlD rfl rfl rfl ?_
            refine WL.pick rfl rfl rfl ?_
            refine WL.assign rfl rfl ?_
            refine WL.done ?_
            refine W.ret ?_
            refine ⟨_, rfl, Fin.nil ?_⟩
            exact ⟨_, hS.ext, (hS.pick [] rfl).rows, News.of (hS.pick [] rfl).rows rfl, ⟨(decide (((x44.length : Nat) : Int) = (0 : Int))), rfl, rfl, hv⟩⟩
          · have hv := hv.2 g52
            rw [decide_eq_false g52]
            refine WL.pass rfl rfl rfl ?_
            refine WL.pass rfl rfl rfl ?_
            refine WL.pass rfl rfl rfl ?_
            refine WL.pick rfl rfl rfl ?_
            refine WL.assign rfl rfl ?_
            refine WL.done ?_
            refine W.ret ?_
            refine ⟨_, rfl, Fin.nil ?_⟩
            exact ⟨_, hS.ext, (hS.pick [] rfl).rows, News.of (hS.pick [] rfl).rows rfl, ⟨false, rfl, rfl, hv⟩⟩
        · have hv := hv.2 (of_decide_eq_false c51)
          refine W.skip ?_
          refine W.seq ?_
          refine W.region ?_
          refine WL.move rfl rfl ?_
          refine WL.eqlD rfl rfl rfl ?_
          refine WL.move rfl rfl ?_
          by_cases g53 : r48 = (0 : Int)
          · have hv := hv.1 g53
            rw [decide_eq_true g53]
            refine WL.take rfl ?_
            refine WL.move rfl rfl ?_
            refine WL.take rfl ?_
            refine WL.move rfl rfl ?_
            refine WL.take rfl ?_
            refine SL.lit1 (vs := is ([r50] : List Int)) hS Try.underlying22 Try.el3 rfl rfl rfl rfl (is_one _) rfl ?_
            intro A54 w55 hS
            refine WL.take rfl ?_
            refine SL.call hS (ok_lsame (hS.rd (i := 2) rfl) (hS.rd (i := 0) rfl) hv) Try.func23 rfl Try.nm23 rfl rfl ?_
            rintro _ _ w57 ⟨r58, rfl, rfl, hv⟩ hGw57 hS
            change St _ _ _ _ [.row 3 1 A54 1 1 (is ([r50] : List Int)), .row 3 1 A41 x40.length k42 (is x40), .row 3 1 A45 x44.length k46 (is x44), .row 3 1 A36 x35.length k37 (is x35), .row 3 1 A31 1 1 (is ([a] : List Int)), .row 22 1 A25 1 1 [.slice Ap p.length kp], .ch lo21 hi22 (fun wz => GFX lo21 hi22 wz ad20 F19), .row 24 3 (some ⟨g11, 0, none⟩) 1 1 [.int .i64 Pf, .int .i64 Mf, .slice Af mf.length kf]] at hS
            refine WL.pick rfl rfl rfl ?_
            refine WL.assign rfl rfl ?_
            refine WL.done ?_
            refine W.ret ?_
            refine ⟨_, rfl, Fin.nil ?_⟩
            exact ⟨_, hS.ext, (hS.pick [] rfl).rows, News.of (hS.pick [] rfl).rows rfl, ⟨r58, rfl, rfl, hv⟩⟩
          · have hv := hv.2 g53
            rw [decide_eq_false g53]
            refine WL.pass rfl rfl rfl ?_
            refine WL.pass rfl rfl rfl ?_
            refine WL.pass rfl rfl rfl ?_
            refine WL.pass rfl rfl rfl ?_
            refine WL.pick rfl rfl rfl ?_
            refine WL.assign rfl rfl ?_
            refine WL.done ?_
            refine W.ret ?_
            refine ⟨_, rfl, Fin.nil ?_⟩
            exact ⟨_, hS.ext, (hS.pick [] rfl).rows, News.of (hS.pick [] rfl).rows rfl, ⟨false, rfl, rfl, hv⟩⟩

end Go.Proofs.Ytmdigamgojfjdaa
set_option linter.unusedVariables false
set_option linter.unusedSimpArgs false
namespace Go.Proofs.Ytmdigamgojfjdaa
open Ks
section
variable {k : Ks} {F : GFv} {P M : Int} {mf : List Int}
theorem ct_L {c : k.E} (h : c ≠ 0) : k.L (ct c) = [k.co c] := by
  have hd : Dg (ct c) 0 := ⟨h, ct_su c⟩
  refine vo_ext (by rw [L_dg hd]; rfl) fun i hi => ?_
  rw [L_dg hd] at hi
  rw [L_at hd.fs, show i = 0 by omega]; rfl
theorem law_PolyRemainders (p : List Int) (a : Int) : V_PolyRemainders P M mf p a (fun b => b = true) := by
  refine w_alive ⟨fun h => absurd h (by decide), fun _ => w_made (fun _ => rfl) fun F k K hF => w_short1 rfl fun hp => ?_⟩
  have hl := L_len (k := k) (lin_su (k.el a))
  refine w_fromRoot1 K (w_pdivmod K (by omega) (by omega) (fun h0 => ?_) fun d hd => w_eval K ?_)
  · rw [pol_L (lin_dg _).fs] at h0; exact absurd h0 (lin_dg _).ne
  · rw [pol_L (lin_dg _).fs] at hd ⊢
    obtain rfl := (lin_dg (k.el a)).uniq hd
    obtain ⟨q1, q2, q3⟩ := qt_spec (pol_su (k := k) p) (lin_dg (k.el a))
    have e := lin_rem ⟨_, q1⟩ q3 q2
    rw [e]
    refine ⟨fun h0 => t0 ?_, fun h0 => t0 ?_⟩
    · rw [co_eq0.1 h0, show ct (0 : k.E) = 0 from mo_zero 0, L_zero]; rfl
    · have hne : vl_ (k.pol p) (k.el a) ≠ 0 := fun h => h0 (co_eq0.2 h)
      rw [ct_L hne]
      exact w_same (by simp) rfl rfl
end
end Go.Proofs.Ytmdigamgojfjdaa
