/- What only this law leans on. -/
import Derived.Test.YthjpminlkcklgaaTowerSubfieldsG9
namespace Go.Proofs.Ythjpminlkcklgaa
open Go.RowKit

section
variable {P : Program} {n : Nat} {ro : Option Nat} {df : List Deferred} {N : Post} {L : Fr} {w : World} {ops : Array Oper} {rest : List Oper}
variable {d : Nat} {ty : TypeId} {pos : String} {af : Array Edge}

theorem run_equalIn_bool {P : Program} {w : World} {t : TypeId} (ht : P.underlying t = some .bool) (k : Nat) (a b : Bool) : (Op.equalIn (k + 1) t (.bool a) (.bool b)).run P w = .ok (a == b) w := by
  rw [Op.equalIn]
  simp [run_underlying ht]
theorem run_equal_bool {P : Program} {w : World} {t : TypeId} (ht : P.underlying t = some .bool) (a b : Bool) : (Op.equal t (.bool a) (.bool b)).run P w = .ok (a == b) w := run_equalIn_bool ht 9999 a b
theorem WL.eqB {x y : Operand} {a b r : Bool} {tx tb : TypeId} (hx : ev L x = some (.bool a)) (hy : ev L y = some (.bool b)) (ht : P.underlying tx = some .bool) (hr : (a == b) = r) (hn : Nat.blt d n = true) (h : WL P n ro df ops rest N ((d, .bool r) :: L) w) :
    WL P n ro df ops (⟨some d, .binOp .eql tx x y tb, ty, pos, af, none⟩ :: rest) N L w :=
  WL.val rfl rfl hn (fun _ ha => by subst hr; cases a <;> cases b <;> simp [execOp, eqGuard, binOp, ha.ev hx, ha.ev hy, run_equal_bool ht]) h
end
end Go.Proofs.Ythjpminlkcklgaa
set_option linter.unusedSimpArgs false
set_option linter.unusedVariables false
namespace Go.Proofs.Ythjpminlkcklgaa
open Go.RowKit
def V_TowerDegrees (Pf : Int) (Mf : Int) (mf : List Int) (x : Int) (d : Int) (Q : Bool → Prop) : Prop :=
  V_alive  (fun r14 => (((!r14) = true) → Q false) ∧ ((!r14) = false → (V_made Pf Mf mf (fun q => match q with | none => Q true | some F19 => V_tdegree F19 x (fun r26 => V_tdivides Pf Mf mf r26 (fun r28 => (((!r28) = true) → Q false) ∧ ((!r28) = false → (V_rin Pf Mf mf x r26 (fun r31 => (((!r31) = true) → Q false) ∧ ((!r31) = false → (V_tdivides Pf Mf mf d (fun r34 => (((!r34) = true) → Q true) ∧ ((!r34) = false → (∃ (r40 : Bool), V_rin Pf Mf mf x d (fun q => q = r40) ∧ ((r26 ≠ 0) ∧ (Q (r40 == (decide ((d.tmod r26) = (0 : Int))))))))))))))))))))
theorem ok_TowerDegrees {w : World} {Q : Bool → Prop} {Pf : Int} {Mf : Int} {mf : List Int} {x : Int} {d : Int} {Bf : Nat} {Af : Option Addr} {nf kf : Nat} (hf : Rd Bf w 1 Af nf kf (is mf)) (hv : V_TowerDegrees Pf Mf mf x d Q) :
    Calls Try.prog 7 #[.agg #[.int .i64 Pf, .int .i64 Mf, .slice Af nf kf], .int .i64 x, .int .i64 d] w fun e w' => ∃ v Qr, e = .returned v ∧ w.grownBy w' none ∧ Rows w.heap.size none w' Qr ∧ News w.heap.size Qr ∧ ∃ (r0 : Bool), v = .bool r0 ∧ Qr = [] ∧ Q r0 := by
  have hnf := hf.ilen
  subst hnf
  refine calls_swap ?_
  refine calls_of_W (vs := [.agg #[.int .i64 Pf, .int .i64 Mf, .slice Af mf.length kf], .int .i64 x, .int .i64 d]) [6] Try.func7 rfl rfl rfl rfl ?_
  have hS := St.start w
  unfold V_TowerDegrees at hv
  refine W.seq ?_
  refine W.region ?_
  refine SL.box (z := 3) (cs := [.int .i64 Pf, .int .i64 Mf, .slice Af mf.length kf]) hS rfl rfl rfl rfl ?_
  intro g11 w12 hS
  refine WL.assign rfl rfl ?_
  refine WL.done ?_
  refine W.seq ?_
  refine W.seq ?_
  refine W.region ?_
  refine SL.call hS (ok_alive  hv) Try.func20 rfl Try.nm20 rfl rfl ?_
  rintro _ _ w13 ⟨r14, rfl, rfl, hv⟩ hGw13 hS
  change St _ _ _ _ [.row 24 3 (some ⟨g11, 0, none⟩) 1 1 [.int .i64 Pf, .int .i64 Mf, .slice Af mf.length kf]] at hS
  refine WL.not rfl rfl ?_
  refine WL.done ?_
  refine W.cond2 rfl (fun c15 => ?_) (fun c15 => ?_)
  · have hv := hv.1 (c15)
    refine W.seq ?_
    refine W.region ?_
    refine WL.assign rfl rfl ?_
    refine WL.done ?_
    refine W.ret ?_
    refine ⟨_, rfl, Fin.nil ?_⟩
    exact ⟨_, hS.ext, (hS.pick [] rfl).rows, News.of (hS.pick [] rfl).rows rfl, ⟨false, rfl, rfl, hv⟩⟩
  · have hv := hv.2 (c15)
    refine W.skip ?_
    refine W.seq ?_
    refine W.region ?_
    refine WL.loadV (cs := [.int .i64 Pf, .int .i64 Mf, .slice Af mf.length kf]) Try.el24 Try.agg24 rfl rfl (Own.vcells (hS.own (i := 0) rfl)) rfl ?_
    refine SL.call hS (ok_made (hS.ro hf) hv) Try.func21 rfl Try.nm21 rfl rfl ?_
    rintro _ _ w17 ⟨o, hv, hK⟩ hGw17 hS
    cases o with
    | none =>
      obtain ⟨rfl, rfl⟩ := hK
      change St _ _ _ _ [.row 24 3 (some ⟨g11, 0, none⟩) 1 1 [.int .i64 Pf, .int .i64 Mf, .slice Af mf.length kf]] at hS
      refine WL.assign rfl rfl ?_
      refine WL.done ?_
      refine W.seq ?_
      refine W.seq ?_
      refine W.region ?_
      refine WL.move rfl rfl ?_
      refine WL.eqlPn Try.underlying26 rfl rfl rfl rfl ?_
      refine WL.done ?_
      refine W.condT rfl ?_
      refine W.seq ?_
      refine W.region ?_
      refine WL.assign rfl rfl ?_
      refine WL.done ?_
      refine W.ret ?_
      refine ⟨_, rfl, Fin.nil ?_⟩
      exact ⟨_, hS.ext, (hS.pick [] rfl).rows, News.of (hS.pick [] rfl).rows rfl, ⟨true, rfl, rfl, hv⟩⟩
    | some F19 =>
      obtain ⟨ad20, lo21, hi22, rfl, rfl⟩ := hK
      change St _ _ _ _ [.ch lo21 hi22 (fun wz => GFX lo21 hi22 wz ad20 F19), .row 24 3 (some ⟨g11, 0, none⟩) 1 1 [.int .i64 Pf, .int .i64 Mf, .slice Af mf.length kf]] at hS
      refine WL.assign rfl rfl ?_
      refine WL.done ?_
      refine W.seq ?_
      refine W.seq ?_
      refine W.region ?_
      refine WL.move rfl rfl ?_
      refine WL.eqlPn Try.underlying26 rfl rfl rfl rfl ?_
      refine WL.done ?_
      refine W.condF rfl ?_
      refine W.skip ?_
      refine W.seq ?_
      refine W.region ?_
      refine WL.move rfl rfl ?_
      refine WL.move rfl rfl ?_
      refine SL.call hS (ok_tdegree (GFX.gfr (hS.chunk (i := 0) rfl)) hv) Try.func35 rfl Try.nm35 rfl rfl ?_
      rintro _ _ w25 ⟨r26, rfl, rfl, hv⟩ hGw25 hS
      change St _ _ _ _ [.ch lo21 hi22 (fun wz => GFX lo21 hi22 wz ad20 F19), .row 24 3 (some ⟨g11, 0, none⟩) 1 1 [.int .i64 Pf, .int .i64 Mf, .slice Af mf.length kf]] at hS
      refine WL.assign rfl rfl ?_
      refine WL.done ?_
      refine W.seq ?_
      refine W.seq ?_
      refine W.region ?_
      refine WL.loadV (cs := [.int .i64 Pf, .int .i64 Mf, .slice Af mf.length kf]) Try.el24 Try.agg24 rfl rfl (Own.vcells (hS.own (i := 1) rfl)) rfl ?_
      refine WL.move rfl rfl ?_
      refine SL.call hS (ok_tdivides (hS.ro hf) hv) Try.func28 rfl Try.nm28 rfl rfl ?_
      rintro _ _ w27 ⟨r28, rfl, rfl, hv⟩ hGw27 hS
      change St _ _ _ _ [.ch lo21 hi22 (fun wz => GFX lo21 hi22 wz ad20 F19), .row 24 3 (some ⟨g11, 0, none⟩) 1 1 [.int .i64 Pf, .int .i64 Mf, .slice Af mf.length kf]] at hS
      refine WL.not rfl rfl ?_
      refine WL.move rfl rfl ?_
      rcases g29 : (!r28) with _ | _
      · have hv := hv.2 g29
        refine WL.take rfl ?_
        refine WL.loadV (cs := [.int .i64 Pf, .int .i64 Mf, .slice Af mf.length kf]) Try.el24 Try.agg24 rfl rfl (Own.vcells (hS.own (i := 1) rfl)) rfl ?_
        refine WL.take rfl ?_
        refine WL.move rfl rfl ?_
        refine WL.take rfl ?_
        refine WL.move rfl rfl ?_
        refine WL.take rfl ?_
        refine SL.call hS (ok_rin (hS.ro hf) hv) Try.func36 rfl Try.nm36 rfl rfl ?_
        rintro _ _ w30 ⟨r31, rfl, rfl, hv⟩ hGw30 hS
        change St _ _ _ _ [.ch lo21 hi22 (fun wz => GFX lo21 hi22 wz ad20 F19), .row 24 3 (some ⟨g11, 0, none⟩) 1 1 [.int .i64 Pf, .int .i64 Mf, .slice Af mf.length kf]] at hS
        refine WL.take rfl ?_
        refine WL.not rfl rfl ?_
        refine WL.pick rfl rfl rfl ?_
        refine WL.done ?_
        refine W.cond2 rfl (fun c32 => ?_) (fun c32 => ?_)
        · have hv := hv.1 (c32)
          refine W.seq ?_
          refine W.region ?_
          refine WL.assign rfl rfl ?_
          refine WL.done ?_
          refine W.ret ?_
          refine ⟨_, rfl, Fin.nil ?_⟩
          exact ⟨_, hS.ext, (hS.pick [] rfl).rows, News.of (hS.pick [] rfl).rows rfl, ⟨false, rfl, rfl, hv⟩⟩
        · have hv := hv.2 (c32)
          refine W.skip ?_
          refine W.seq ?_
          refine W.seq ?_
          refine W.region ?_
          refine WL.loadV (cs := [.int .i64 Pf, .int .i64 Mf, .slice Af mf.length kf]) Try.el24 Try.agg24 rfl rfl (Own.vcells (hS.own (i := 1) rfl)) rfl ?_
          refine WL.move rfl rfl ?_
          refine SL.call hS (ok_tdivides (hS.ro hf) hv) Try.func28 rfl Try.nm28 rfl rfl ?_
          rintro _ _ w33 ⟨r34, rfl, rfl, hv⟩ hGw33 hS
          change St _ _ _ _ [.ch lo21 hi22 (fun wz => GFX lo21 hi22 wz ad20 F19), .row 24 3 (some ⟨g11, 0, none⟩) 1 1 [.int .i64 Pf, .int .i64 Mf, .slice Af mf.length kf]] at hS
          refine WL.not rfl rfl ?_
          refine WL.done ?_
          refine W.cond2 rfl (fun c35 => ?_) (fun c35 => ?_)
          · have hv := hv.1 (c35)
            refine W.seq ?_
            refine W.region ?_
            refine WL.assign rfl rfl ?_
            refine WL.done ?_
            refine W.ret ?_
            refine ⟨_, rfl, Fin.nil ?_⟩
            exact ⟨_, hS.ext, (hS.pick [] rfl).rows, News.of (hS.pick [] rfl).rows rfl, ⟨true, rfl, rfl, hv⟩⟩
          · have hv := hv.2 (c35)
            refine W.skip ?_
            refine W.seq ?_
            obtain ⟨r40, o42, hv⟩ := hv
            obtain ⟨o46, hv⟩ := hv
            have hS0 := hS
            refine W.drawX 10 (fun _ => false) (fun _ => none) [⟨[], [3], false⟩, ⟨[], [1], true⟩, ⟨[], [2], true⟩, ⟨[0, 1, 2], [], false⟩, ⟨[], [2], true⟩, ⟨[], [8], true⟩, ⟨[4, 5], [], true⟩, ⟨[6], [], true⟩, ⟨[3, 7], [], true⟩, ⟨[8], [], true⟩] [[(3, .pointer (some ⟨g11, 0, none⟩))], [(1, .int .i64 x)], [(2, .int .i64 d)], [], [(2, .int .i64 d)], [(8, .int .i64 r26)], [], [], [], []] (fun iQ => [fun v _ => v = .agg #[.int .i64 Pf, .int .i64 Mf, .slice Af mf.length kf], fun v _ => v = .int .i64 x, fun v _ => v = .int .i64 d, fun v _ => v = .bool r40, fun v _ => v = .int .i64 d, fun v _ => v = .int .i64 r26, fun v _ => v = .int .i64 (d.tmod r26), fun v _ => v = .bool (decide ((d.tmod r26) = (0 : Int))), fun v _ => v = .bool (r40 == (decide ((d.tmod r26) = (0 : Int)))), fun v _ => v = .bool (r40 == (decide ((d.tmod r26) = (0 : Int))))].getD iQ (fun _ _ => True)) Try.mixed (by kernel_rfl) ?_ (by kernel_rfl) ?_ ?_
            · refine Vs_monoT _ ?_
              intro VQ hVQ vQ wQ1 wQ2 hQ1 hQ2
              simp only [List.mem_cons, List.not_mem_nil, or_false] at hVQ
              rcases hVQ with rfl | rfl | rfl | rfl | rfl | rfl | rfl | rfl | rfl | rfl
              · exact hQ1
              · exact hQ1
              · exact hQ1
              · exact hQ1
              · exact hQ1
              · exact hQ1
              · exact hQ1
              · exact hQ1
              · exact hQ1
              · exact hQ1
            · refine ⟨⟨rfl, ⟨rfl, trivial⟩, ?_⟩, ⟨rfl, ⟨rfl, trivial⟩, ?_⟩, ⟨rfl, ⟨rfl, trivial⟩, ?_⟩, ⟨rfl, trivial, ?_⟩, ⟨rfl, ⟨rfl, trivial⟩, ?_⟩, ⟨rfl, ⟨rfl, trivial⟩, ?_⟩, ⟨rfl, trivial, ?_⟩, ⟨rfl, trivial, ?_⟩, ⟨rfl, trivial, ?_⟩, ⟨rfl, trivial, ?_⟩, trivial⟩
              · intro w36 hE
                have hE := hE rfl
                have hS := hS.grow hE
                intro RR
                refine WL.loadV (cs := [.int .i64 Pf, .int .i64 Mf, .slice Af mf.length kf]) Try.el24 Try.agg24 rfl rfl (Own.vcells (hS.own (i := 1) rfl)) rfl ?_
                exact WL.done ⟨_, rfl, ext_refl _, rfl, (fun h => absurd h (by decide)), (fun j h => by cases h)⟩
              · intro w37 hE
                intro RR
                refine WL.move rfl rfl ?_
                exact WL.done ⟨_, rfl, rfl, rfl, (fun h => absurd h (by decide)), (fun j h => by cases h)⟩
              · intro w38 hE
                intro RR
                refine WL.move rfl rfl ?_
                exact WL.done ⟨_, rfl, rfl, rfl, (fun h => absurd h (by decide)), (fun j h => by cases h)⟩
              · intro w39 hE
                have hE := hE rfl
                have hS := hS.grow hE
                rintro _ rfl
                rintro _ rfl
                rintro _ rfl
                intro RR
                refine WL.call Try.func36 rfl Try.nm36 rfl rfl (calls_un (ok_rin (hS.ro hf) o42)) ?_
                rintro _ w41 ⟨_, hGw41, hRww41, hNww41, r40q, rfl, rfl, he⟩
                subst he
                exact WL.done ⟨_, rfl, hGw41, rfl, (fun h => absurd h (by decide)), (fun j h => by cases h)⟩
              · intro w43 hE
                intro RR
                refine WL.move rfl rfl ?_
                exact WL.done ⟨_, rfl, rfl, rfl, (fun h => absurd h (by decide)), (fun j h => by cases h)⟩
              · intro w44 hE
                intro RR
                refine WL.move rfl rfl ?_
                exact WL.done ⟨_, rfl, rfl, rfl, (fun h => absurd h (by decide)), (fun j h => by cases h)⟩
              · intro w45 hE
                rintro _ rfl
                rintro _ rfl
                intro RR
                refine WL.rem (r := (d.tmod r26)) rfl rfl o46 rfl rfl ?_
                exact WL.done ⟨_, rfl, rfl, rfl, (fun h => absurd h (by decide)), (fun j h => by cases h)⟩
              · intro w47 hE
                rintro _ rfl
                intro RR
                refine WL.eqlD rfl rfl rfl ?_
                exact WL.done ⟨_, rfl, rfl, rfl, (fun h => absurd h (by decide)), (fun j h => by cases h)⟩
              · intro w48 hE
                rintro _ rfl
                rintro _ rfl
                intro RR
                refine WL.eqB (r := (r40 == (decide ((d.tmod r26) = (0 : Int))))) rfl rfl Try.underlying4 rfl rfl ?_
                exact WL.done ⟨_, rfl, rfl, rfl, (fun h => absurd h (by decide)), (fun j h => by cases h)⟩
              · intro w49 hE
                rintro _ rfl
                intro RR
                refine WL.assign rfl rfl ?_
                exact WL.done ⟨_, rfl, rfl, rfl, (fun h => absurd h (by decide)), (fun j h => by cases h)⟩
            · intro vals w50 hT hVs hAp hCp
              have hS := hS.grow hT
              have hv0 : vals 0 = _ := hVs 0 (by decide)
              have hv1 : vals 1 = _ := hVs 1 (by decide)
              have hv2 : vals 2 = _ := hVs 2 (by decide)
              have hv3 : vals 3 = _ := hVs 3 (by decide)
              have hv4 : vals 4 = _ := hVs 4 (by decide)
              have hv5 : vals 5 = _ := hVs 5 (by decide)
              have hv6 : vals 6 = _ := hVs 6 (by decide)
              have hv7 : vals 7 = _ := hVs 7 (by decide)
              have hv8 : vals 8 = _ := hVs 8 (by decide)
              have hv9 : vals 9 = _ := hVs 9 (by decide)
              rw [show (List.filterMap (fun i => Option.map (fun t => (t, vals i)) (dstAt _ i)) (List.range _)) = [(33, .agg #[.int .i64 Pf, .int .i64 Mf, .slice Af mf.length kf]), (34, .int .i64 x), (35, .int .i64 d), (36, .bool r40), (37, .int .i64 d), (38, .int .i64 r26), (39, .int .i64 (d.tmod r26)), (40, .bool (decide ((d.tmod r26) = (0 : Int)))), (41, .bool (r40 == (decide ((d.tmod r26) = (0 : Int))))), (6, .bool (r40 == (decide ((d.tmod r26) = (0 : Int)))))] from by
                show [(33, vals 0), (34, vals 1), (35, vals 2), (36, vals 3), (37, vals 4), (38, vals 5), (39, vals 6), (40, vals 7), (41, vals 8), (6, vals 9)] = _
                rw [hv0, hv1, hv2, hv3, hv4, hv5, hv6, hv7, hv8, hv9]]
              refine WA.done (by decide +kernel) ?_
              refine W.ret ?_
              refine ⟨_, rfl, Fin.nil ?_⟩
              exact ⟨_, hS.ext, (hS.pick [] rfl).rows, News.of (hS.pick [] rfl).rows rfl, ⟨(r40 == (decide ((d.tmod r26) = (0 : Int)))), rfl, rfl, hv⟩⟩
      · have hv := hv.1 g29
        refine WL.pass rfl rfl rfl ?_
        refine WL.pass rfl rfl rfl ?_
        refine WL.pass rfl rfl rfl ?_
        refine WL.pass rfl rfl rfl ?_
        refine WL.pass rfl rfl rfl ?_
        refine WL.pick rfl rfl rfl ?_
        refine WL.done ?_
        refine W.condT rfl ?_
        refine W.seq ?_
        refine W.region ?_
        refine WL.assign rfl rfl ?_
        refine WL.done ?_
        refine W.ret ?_
        refine ⟨_, rfl, Fin.nil ?_⟩
        exact ⟨_, hS.ext, (hS.pick [] rfl).rows, News.of (hS.pick [] rfl).rows rfl, ⟨false, rfl, rfl, hv⟩⟩

end Go.Proofs.Ythjpminlkcklgaa
set_option linter.unusedVariables false
set_option linter.unusedSimpArgs false
namespace Go.Proofs.Ythjpminlkcklgaa
section
variable {F : GFv} {p m v g : Nat} {P M : Int} {mf : List Int}
theorem pow_eq_iff (K : GFk F p m v g) {x u : Nat} (hx : x < p ^ m) (hP : Pe (fmul p m (dv p v)) p x u) (j : Nat) : pw (fmul p m (dv p v)) x (p ^ j) = x ↔ j % u = 0 := hP.iff K.fv.ring hx j
theorem law_TowerDegrees (x d : Int) : V_TowerDegrees P M mf x d (fun b => b = true) := by
  refine w_alive (nb (w_made (fun _ => rfl) fun F p m v g K hF => ?_))
  have R := hF.ring
  have hx := inE_lt R.pos x
  have hm8 := hF.m8
  have hm0 := hF.m0
  refine w_tdegree K fun u hu hP => ?_
  have hu0 := hP.pos
  have hmu : m % u = 0 := (pow_eq_iff K hx hP m).1 (K.G.xq R hx)
  refine w_tdivides hF (fun c t e h1 h2 => nb (w_rin K hF (by omega) ?_)) fun hn => absurd ⟨u, m / u, rfl, hu0, IsD.of hu0 hmu⟩ hn
  rw [decide_eq_true ((pow_eq_iff K hx hP u).2 (Nat.mod_self u))]
  refine nb (w_tdivides hF (fun c t e h1 h2 => nb ?_) fun hn => nf rfl)
  subst e
  have hcm := cm_le hm0 h2
  refine ⟨_, w_rin K hF (by omega) rfl, by omega, ?_⟩
  rw [tmodN c u]
  by_cases hd : c % u = 0
  · rw [decide_eq_true ((pow_eq_iff K hx hP c).2 hd), hd]; rfl
  · rw [decide_eq_false (fun h => hd ((pow_eq_iff K hx hP c).1 h)), decide_eq_false (by omega)]; rfl
end
end Go.Proofs.Ythjpminlkcklgaa
