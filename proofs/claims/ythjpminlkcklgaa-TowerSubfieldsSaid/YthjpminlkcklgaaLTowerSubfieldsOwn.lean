/- What only this law leans on. -/
import Derived.Test.YthjpminlkcklgaaTowerSubfieldsG9
set_option linter.unusedVariables false
namespace Go.Proofs.Ythjpminlkcklgaa
open Go.RowKit
theorem Try.nm30 : (Try.f30.name == "runtime.NumGoroutine") = false := by kernel_rfl
end Go.Proofs.Ythjpminlkcklgaa
set_option linter.unusedSimpArgs false
set_option linter.unusedVariables false
namespace Go.Proofs.Ythjpminlkcklgaa
open Go.RowKit
def V_rsubfield (Pf : Int) (Mf : Int) (mf : List Int) (d : Int) (Q : List Int → Prop) : Prop :=
  ∃ (I28 : List Int → Int → Prop) (μ29 : List Int → Int → Nat), I28 ([] : List Int) (0 : Int) ∧ ∀ (x23 : List Int) (z27 : Int), (I28 x23 z27 → (V_rOrder Pf Mf mf (fun r32 => ((z27 < r32) → (∃ J38 : List Int → Bool → Prop, (V_rin Pf Mf mf z27 d (fun r40 => ((r40 = true) → ((((x23.length : Nat) + (1 : Nat) : Int) * 8 ≤ 140737488355328) ∧ (J38 (x23 ++ ([z27] : List Int)) r40))) ∧ (r40 = false → J38 x23 r40))) ∧ ∀ (x34 : List Int) (b37 : Bool), (J38 x34 b37 → ((I64 (z27 + (1 : Int))) ∧ (I28 x34 (z27 + (1 : Int)) ∧ μ29 x34 (z27 + (1 : Int)) < μ29 x23 z27))))) ∧ (¬ (z27 < r32) → Q x23))))
theorem ok_rsubfield {w : World} {Q : List Int → Prop} {Pf : Int} {Mf : Int} {mf : List Int} {d : Int} {Bf : Nat} {Af : Option Addr} {nf kf : Nat} (hf : Rd Bf w 1 Af nf kf (is mf)) (hv : V_rsubfield Pf Mf mf d Q) :
    Calls Try.prog 30 #[.agg #[.int .i64 Pf, .int .i64 Mf, .slice Af nf kf], .int .i64 d] w fun e w' => ∃ v Qr, e = .returned v ∧ w.grownBy w' none ∧ Rows w.heap.size none w' Qr ∧ News w.heap.size Qr ∧ ∃ (r0 : List Int) (Ar0 : Option Addr) (cr0 : Nat), v = .slice Ar0 r0.length cr0 ∧ Qr = [.row 3 1 Ar0 r0.length cr0 (is r0)] ∧ Q r0 := by
  have hnf := hf.ilen
  subst hnf
  refine calls_swap ?_
  refine calls_of_W (vs := [.agg #[.int .i64 Pf, .int .i64 Mf, .slice Af mf.length kf], .int .i64 d]) [4] Try.func30 rfl rfl rfl rfl ?_
  have hS := St.start w
  unfold V_rsubfield at hv
  refine W.seq ?_
  refine W.region ?_
  refine SL.box (z := 3) (cs := [.int .i64 Pf, .int .i64 Mf, .slice Af mf.length kf]) hS rfl rfl rfl rfl ?_
  intro g11 w12 hS
  refine WL.assign rfl rfl ?_
  refine WL.done ?_
  refine W.seq ?_
  refine W.region ?_
  refine WL.assign rfl rfl ?_
  refine WL.done ?_
  refine W.seq ?_
  refine W.seq ?_
  refine W.region ?_
  refine WL.assign rfl rfl ?_
  refine WL.done ?_
  refine W.block ?_
  obtain ⟨I28, μ29, hv, hk52⟩ := hv
  have hS := hS.nil (e := 3) (z := 1)
  have hm0 : 0 = ([] : List Int).length := (hS.rd (i := 0) rfl).ilen.symm
  have hS := hS.relen (i := 0) rfl hm0
  change St _ _ _ _ [.row 3 1 none ([] : List Int).length 0 (is ([] : List Int)), .row 24 3 (some ⟨g11, 0, none⟩) 1 1 [.int .i64 Pf, .int .i64 Mf, .slice Af mf.length kf]] at hS
  refine W.loop (σ := List Int × Int × Option Addr × Nat) (fun q w1 => match q with | (x23, z27, A24, k25) => I28 x23 z27 ∧ St TT w none w1 [.row 3 1 A24 x23.length k25 (is x23), .row 24 3 (some ⟨g11, 0, none⟩) 1 1 [.int .i64 Pf, .int .i64 Mf, .slice Af mf.length kf]]) (fun q => match q with | (x23, z27, A24, k25) => [(1, .int .i64 d), (2, .pointer (some ⟨g11, 0, none⟩)), (4, .slice none 0 0), (5, .slice A24 x23.length k25), (6, .int .i64 z27)]) (fun q => match q with | (x23, z27, A24, k25) => μ29 x23 z27) (([] : List Int), (0 : Int), none, 0) ⟨hv, hS⟩ ⟨rfl, rfl, rfl, (sm (by first | rfl | assumption | omega)), rfl, trivial⟩ ?_
  rintro ⟨x23, z27, A24, k25⟩ w30 ⟨hv, hS⟩
  have hv := hk52 x23 z27 hv
  refine W.seq ?_
  refine W.seq ?_
  refine W.region ?_
  refine WL.move rfl rfl ?_
  refine WL.loadV (cs := [.int .i64 Pf, .int .i64 Mf, .slice Af mf.length kf]) Try.el24 Try.agg24 rfl rfl (Own.vcells (hS.own (i := 1) rfl)) rfl ?_
  refine SL.call hS (ok_rOrder (hS.ro hf) hv) Try.func31 rfl Try.nm31 rfl rfl ?_
  rintro _ _ w31 ⟨r32, rfl, rfl, hv⟩ hGw31 hS
  change St _ _ _ _ [.row 3 1 A24 x23.length k25 (is x23), .row 24 3 (some ⟨g11, 0, none⟩) 1 1 [.int .i64 Pf, .int .i64 Mf, .slice Af mf.length kf]] at hS
  refine WL.lssD rfl rfl rfl ?_
  refine WL.done ?_
  refine W.cond2 rfl (fun c33 => ?_) (fun c33 => ?_)
  · have hv := hv.1 (of_decide_eq_true c33)
    refine W.skip ?_
    refine W.seq ?_
    obtain ⟨J38, hv, hk51⟩ := hv
    refine W.cutN (σ := List Int × Bool × Option Addr × Nat) (fun q w1 => match q with | (x34, b37, A35, k36) => J38 x34 b37 ∧ St TT w none w1 [.row 3 1 A35 x34.length k36 (is x34), .row 24 3 (some ⟨g11, 0, none⟩) 1 1 [.int .i64 Pf, .int .i64 Mf, .slice Af mf.length kf]]) (fun q => match q with | (x34, b37, A35, k36) => [(1, .int .i64 d), (2, .pointer (some ⟨g11, 0, none⟩)), (4, .slice none 0 0), (5, .slice A35 x34.length k36), (6, .int .i64 z27), (10, .bool (decide (z27 < r32))), (16, .bool b37)]) ?_ ?_
    · refine W.block ?_
      refine W.seq ?_
      refine W.region ?_
      refine WL.loadV (cs := [.int .i64 Pf, .int .i64 Mf, .slice Af mf.length kf]) Try.el24 Try.agg24 rfl rfl (Own.vcells (hS.own (i := 1) rfl)) rfl ?_
      refine WL.move rfl rfl ?_
      refine WL.move rfl rfl ?_
      refine SL.call hS (ok_rin (hS.ro hf) hv) Try.func36 rfl Try.nm36 rfl rfl ?_
      rintro _ _ w39 ⟨r40, rfl, rfl, hv⟩ hGw39 hS
      change St _ _ _ _ [.row 3 1 A24 x23.length k25 (is x23), .row 24 3 (some ⟨g11, 0, none⟩) 1 1 [.int .i64 Pf, .int .i64 Mf, .slice Af mf.length kf]] at hS
      refine WL.done ?_
      refine W.cond2 rfl (fun c41 => ?_) (fun c41 => ?_)
      · have hv := hv.1 (c41)
        refine W.region ?_
        refine WL.move rfl rfl ?_
        refine WL.move rfl rfl ?_
        refine SL.lit1 (vs := is ([z27] : List Int)) hS Try.underlying22 Try.el3 rfl rfl rfl rfl (is_one _) rfl ?_
        intro A42 w43 hS
        obtain ⟨o45, hv⟩ := hv
        refine SL.append (cs := is x23) (cs' := is ([z27] : List Int)) 1 ((x23 ++ ([z27] : List Int)).length) (is (x23 ++ ([z27] : List Int))) hS rfl Try.underlying22 Try.el3 (hS.rd (i := 0) rfl) (is_one _) rfl rfl (apk o45).1 (apk o45).2 (is_ap (hS.rd (i := 1) rfl) (hS.rd (i := 0) rfl)) (is_append _ _) rfl ?_
        intro A46 k47 w48 hS
        refine WL.assign rfl rfl ?_
        refine WL.done ?_
        have hS := hS.pick [1, 2] rfl
        change St _ _ _ _ [.row 3 1 A46 (x23 ++ ([z27] : List Int)).length k47 (is (x23 ++ ([z27] : List Int))), .row 24 3 (some ⟨g11, 0, none⟩) 1 1 [.int .i64 Pf, .int .i64 Mf, .slice Af mf.length kf]] at hS
        exact ⟨(x23 ++ ([z27] : List Int), r40, A46, k47), ⟨rfl, rfl, rfl, rfl, rfl, rfl, rfl, trivial⟩, rfl, hv, hS⟩
      · have hv := hv.2 (c41)
        refine W.skip ?_
        change St _ _ _ _ [.row 3 1 A24 x23.length k25 (is x23), .row 24 3 (some ⟨g11, 0, none⟩) 1 1 [.int .i64 Pf, .int .i64 Mf, .slice Af mf.length kf]] at hS
        exact ⟨(x23, r40, A24, k25), ⟨rfl, rfl, rfl, rfl, rfl, rfl, rfl, trivial⟩, rfl, hv, hS⟩
    · rintro ⟨x34, b37, A35, k36⟩ w49 ⟨hv, hS⟩
      have hv := hk51 x34 b37 hv
      refine W.region ?_
      refine WL.move rfl rfl ?_
      obtain ⟨o50, hv⟩ := hv
      refine WL.add (r := (z27 + (1 : Int))) rfl rfl (wr o50) rfl ?_
      refine WL.assign rfl rfl ?_
      refine WL.done ?_
      change St _ _ _ _ [.row 3 1 A35 x34.length k36 (is x34), .row 24 3 (some ⟨g11, 0, none⟩) 1 1 [.int .i64 Pf, .int .i64 Mf, .slice Af mf.length kf]] at hS
      exact ⟨(x34, (z27 + (1 : Int)), A35, k36), ⟨rfl, rfl, rfl, rfl, rfl, trivial⟩, hv.2, rfl, hv.1, hS⟩
  · have hv := hv.2 (of_decide_eq_false c33)
    refine W.exit ?_
    refine W.seq ?_
    refine W.region ?_
    refine WL.move rfl rfl ?_
    refine WL.assign rfl rfl ?_
    refine WL.done ?_
    refine W.ret ?_
    refine ⟨_, rfl, Fin.nil ?_⟩
    exact ⟨_, hS.ext, (hS.pick [0] rfl).rows, News.of (hS.pick [0] rfl).rows rfl, ⟨x23, A24, k25, rfl, rfl, hv⟩⟩

end Go.Proofs.Ythjpminlkcklgaa
set_option linter.unusedSimpArgs false
set_option linter.unusedVariables false
namespace Go.Proofs.Ythjpminlkcklgaa
open Go.RowKit
def V_TowerSubfields (Pf : Int) (Mf : Int) (mf : List Int) (d : Int) (Q : Bool → Prop) : Prop :=
  V_alive  (fun r14 => (((!r14) = true) → Q false) ∧ ((!r14) = false → (V_made Pf Mf mf (fun q => match q with | none => Q true | some F19 => V_subfield F19 d (fun q => match q with | (x26, r30) => V_tdivides Pf Mf mf d (fun r32 => (((!r32) = true) → (((r30 = (6 : Int)) → (Q (decide (((x26.length : Nat) : Int) = (0 : Int))))) ∧ (¬ (r30 = (6 : Int)) → Q false))) ∧ ((!r32) = false → (∃ (I41 : Int → Int → Prop) (μ42 : Int → Int → Nat), I41 (1 : Int) (0 : Int) ∧ ∀ (z39 : Int) (z40 : Int), (I41 z39 z40 → (((z40 < d) → ((I64 (z39 * Pf)) ∧ ((I64 (z40 + (1 : Int))) ∧ (I41 (z39 * Pf) (z40 + (1 : Int)) ∧ μ42 (z39 * Pf) (z40 + (1 : Int)) < μ42 z39 z40)))) ∧ (¬ (z40 < d) → (((r30 = (0 : Int)) → (((((x26.length : Nat) : Int) = z39) → (V_rsubfield Pf Mf mf d (fun x50 => V_lsame x26 x50 (fun r55 => Q r55)))) ∧ (¬ (((x26.length : Nat) : Int) = z39) → Q false))) ∧ (¬ (r30 = (0 : Int)) → Q false)))))))))))))
theorem ok_TowerSubfields {w : World} {Q : Bool → Prop} {Pf : Int} {Mf : Int} {mf : List Int} {d : Int} {Bf : Nat} {Af : Option Addr} {nf kf : Nat} (hf : Rd Bf w 1 Af nf kf (is mf)) (hv : V_TowerSubfields Pf Mf mf d Q) :
    Calls Try.prog 5 #[.agg #[.int .i64 Pf, .int .i64 Mf, .slice Af nf kf], .int .i64 d] w fun e w' => ∃ v Qr, e = .returned v ∧ w.grownBy w' none ∧ Rows w.heap.size none w' Qr ∧ News w.heap.size Qr ∧ ∃ (r0 : Bool), v = .bool r0 ∧ Qr = [] ∧ Q r0 := by
  have hnf := hf.ilen
  subst hnf
  refine calls_swap ?_
  refine calls_of_W (vs := [.agg #[.int .i64 Pf, .int .i64 Mf, .slice Af mf.length kf], .int .i64 d]) [4] Try.func5 rfl rfl rfl rfl ?_
  have hS := St.start w
  unfold V_TowerSubfields at hv
  refine W.seq ?_
  refine W.region ?_
  refine SL.box (z := 3) (cs := [.int .i64 Pf, .int .i64 Mf, .slice Af mf.length kf]) hS rfl rfl rfl rfl ?_
  intro g11 w12 hS
  refine WL.assign rfl rfl ?_
  refine WL.done ?_
  refine W.seq ?_
  refine W.seq ?_
  refine W.region ?_
  refine SL.call hS (ok_alive  hv) Try.func20 rfl Try.nm20 rfl rfl ?_
  rintro _ _ w13 ⟨r14, rfl, rfl, hv⟩ hGw13 hS
  change St _ _ _ _ [.row 24 3 (some ⟨g11, 0, none⟩) 1 1 [.int .i64 Pf, .int .i64 Mf, .slice Af mf.length kf]] at hS
  refine WL.not rfl rfl ?_
  refine WL.done ?_
  refine W.cond2 rfl (fun c15 => ?_) (fun c15 => ?_)
  · have hv := hv.1 (c15)
    refine W.seq ?_
    refine W.region ?_
    refine WL.assign rfl rfl ?_
    refine WL.done ?_
    refine W.ret ?_
    refine ⟨_, rfl, Fin.nil ?_⟩
    exact ⟨_, hS.ext, (hS.pick [] rfl).rows, News.of (hS.pick [] rfl).rows rfl, ⟨false, rfl, rfl, hv⟩⟩
  · have hv := hv.2 (c15)
    refine W.skip ?_
    refine W.seq ?_
    refine W.region ?_
    refine WL.loadV (cs := [.int .i64 Pf, .int .i64 Mf, .slice Af mf.length kf]) Try.el24 Try.agg24 rfl rfl (Own.vcells (hS.own (i := 0) rfl)) rfl ?_
    refine SL.call hS (ok_made (hS.ro hf) hv) Try.func21 rfl Try.nm21 rfl rfl ?_
    rintro _ _ w17 ⟨o, hv, hK⟩ hGw17 hS
    cases o with
    | none =>
      obtain ⟨rfl, rfl⟩ := hK
      change St _ _ _ _ [.row 24 3 (some ⟨g11, 0, none⟩) 1 1 [.int .i64 Pf, .int .i64 Mf, .slice Af mf.length kf]] at hS
      refine WL.assign rfl rfl ?_
      refine WL.done ?_
      refine W.seq ?_
      refine W.seq ?_
      refine W.region ?_
      refine WL.move rfl rfl ?_
      refine WL.eqlPn Try.underlying26 rfl rfl rfl rfl ?_
      refine WL.done ?_
      refine W.condT rfl ?_
      refine W.seq ?_
      refine W.region ?_
      refine WL.assign rfl rfl ?_
      refine WL.done ?_
      refine W.ret ?_
      refine ⟨_, rfl, Fin.nil ?_⟩
      exact ⟨_, hS.ext, (hS.pick [] rfl).rows, News.of (hS.pick [] rfl).rows rfl, ⟨true, rfl, rfl, hv⟩⟩
    | some F19 =>
      obtain ⟨ad20, lo21, hi22, rfl, rfl⟩ := hK
      change St _ _ _ _ [.ch lo21 hi22 (fun wz => GFX lo21 hi22 wz ad20 F19), .row 24 3 (some ⟨g11, 0, none⟩) 1 1 [.int .i64 Pf, .int .i64 Mf, .slice Af mf.length kf]] at hS
      refine WL.assign rfl rfl ?_
      refine WL.done ?_
      refine W.seq ?_
      refine W.seq ?_
      refine W.region ?_
      refine WL.move rfl rfl ?_
      refine WL.eqlPn Try.underlying26 rfl rfl rfl rfl ?_
      refine WL.done ?_
      refine W.condF rfl ?_
      refine W.skip ?_
      refine W.seq ?_
      refine W.region ?_
      refine WL.move rfl rfl ?_
      refine WL.move rfl rfl ?_
      refine SL.call hS (ok_subfield (GFX.gfr (hS.chunk (i := 0) rfl)) hv) Try.func27 rfl Try.nm27 rfl rfl ?_
      rintro _ _ w25 ⟨x26, r30, A27, k28, rfl, rfl, hv⟩ hGw25 hS
      change St _ _ _ _ [.row 3 1 A27 x26.length k28 (is x26), .ch lo21 hi22 (fun wz => GFX lo21 hi22 wz ad20 F19), .row 24 3 (some ⟨g11, 0, none⟩) 1 1 [.int .i64 Pf, .int .i64 Mf, .slice Af mf.length kf]] at hS
      refine WL.move rfl rfl ?_
      refine WL.extract rfl rfl rfl ?_
      refine WL.extract rfl rfl rfl ?_
      refine WL.assign rfl rfl ?_
      refine WL.assign rfl rfl ?_
      refine WL.done ?_
      refine W.seq ?_
      refine W.seq ?_
      refine W.region ?_
      refine WL.loadV (cs := [.int .i64 Pf, .int .i64 Mf, .slice Af mf.length kf]) Try.el24 Try.agg24 rfl rfl (Own.vcells (hS.own (i := 2) rfl)) rfl ?_
      refine WL.move rfl rfl ?_
      refine SL.call hS (ok_tdivides (hS.ro hf) hv) Try.func28 rfl Try.nm28 rfl rfl ?_
      rintro _ _ w31 ⟨r32, rfl, rfl, hv⟩ hGw31 hS
      change St _ _ _ _ [.row 3 1 A27 x26.length k28 (is x26), .ch lo21 hi22 (fun wz => GFX lo21 hi22 wz ad20 F19), .row 24 3 (some ⟨g11, 0, none⟩) 1 1 [.int .i64 Pf, .int .i64 Mf, .slice Af mf.length kf]] at hS
      refine WL.not rfl rfl ?_
      refine WL.done ?_
      refine W.cond2 rfl (fun c33 => ?_) (fun c33 => ?_)
      · have hv := hv.1 (c33)
        refine W.seq ?_
        refine W.region ?_
        refine WL.move rfl rfl ?_
        refine WL.eqlD rfl rfl rfl ?_
        refine WL.move rfl rfl ?_
        by_cases g34 : r30 = (6 : Int)
        · have hv := hv.1 g34
          rw [decide_eq_true g34]
          refine WL.take rfl ?_
          refine WL.move rfl rfl ?_
          refine WL.take rfl ?_
          refine WL.len Try.underlying22 rfl rfl ?_
          refine WL.take rfl ?_
          refine WL.eqlD rfl rfl rfl ?_
          refine WL.pick rfl rfl rfl ?_
          refine WL.assign rfl rfl ?_
          refine WL.done ?_
          refine W.ret ?_
          refine ⟨_, rfl, Fin.nil ?_⟩
          exact ⟨_, hS.ext, (hS.pick [] rfl).rows, News.of (hS.pick [] rfl).rows rfl, ⟨(decide (((x26.length : Nat) : Int) = (0 : Int))), rfl, rfl, hv⟩⟩
        · have hv := hv.2 g34
          rw [decide_eq_false g34]
          refine WL.pass rfl rfl rfl ?_
          refine WL.pass rfl rfl rfl ?_
          refine WL.pass rfl rfl rfl ?_
          refine WL.pick rfl rfl rfl ?_
          refine WL.assign rfl rfl ?_
          refine WL.done ?_
          refine W.ret ?_
          refine ⟨_, rfl, Fin.nil ?_⟩
          exact ⟨_, hS.ext, (hS.pick [] rfl).rows, News.of (hS.pick [] rfl).rows rfl, ⟨false, rfl, rfl, hv⟩⟩
      · have hv := hv.2 (c33)
        refine W.skip ?_
        refine W.seq ?_
        refine W.region ?_
        refine WL.assign rfl rfl ?_
        refine WL.done ?_
        refine W.seq ?_
        refine W.seq ?_
        refine W.region ?_
        refine WL.move rfl rfl ?_
        refine WL.move rfl rfl ?_
        refine WL.done ?_
        refine W.block ?_
        obtain ⟨I41, μ42, hv, hk56⟩ := hv
        change St _ _ _ _ [.row 3 1 A27 x26.length k28 (is x26), .ch lo21 hi22 (fun wz => GFX lo21 hi22 wz ad20 F19), .row 24 3 (some ⟨g11, 0, none⟩) 1 1 [.int .i64 Pf, .int .i64 Mf, .slice Af mf.length kf]] at hS
        refine W.loop (σ := Int × Int) (fun q w1 => match q with | (z39, z40) => I41 z39 z40 ∧ St TT w none w1 [.row 3 1 A27 x26.length k28 (is x26), .ch lo21 hi22 (fun wz => GFX lo21 hi22 wz ad20 F19), .row 24 3 (some ⟨g11, 0, none⟩) 1 1 [.int .i64 Pf, .int .i64 Mf, .slice Af mf.length kf]]) (fun q => match q with | (z39, z40) => [(1, .int .i64 d), (2, .pointer (some ⟨g11, 0, none⟩)), (4, .bool false), (6, .slice A27 x26.length k28), (7, .int .i64 r30), (8, .int .i64 z39), (32, .int .i64 d), (33, .int .i64 z40)]) (fun q => match q with | (z39, z40) => μ42 z39 z40) ((1 : Int), (0 : Int)) ⟨hv, hS⟩ ⟨rfl, rfl, rfl, rfl, rfl, rfl, rfl, rfl, trivial⟩ ?_
        rintro ⟨z39, z40⟩ w43 ⟨hv, hS⟩
        have hv := hk56 z39 z40 hv
        refine W.seq ?_
        refine W.region ?_
        refine WL.lssD rfl rfl rfl ?_
        refine WL.done ?_
        refine W.seq ?_
        refine W.cond2 rfl (fun c44 => ?_) (fun c44 => ?_)
        · have hv := hv.1 (of_decide_eq_true c44)
          refine W.skip ?_
          refine W.seq ?_
          refine W.block ?_
          refine W.region ?_
          refine WL.move rfl rfl ?_
          refine WL.fieldA (off := 0) Try.fla24_0 rfl rfl ?_
          refine WL.load Try.underlying3 rfl rfl (Own.vcells (hS.own (i := 2) rfl) 0 _ rfl) rfl ?_
          obtain ⟨o45, hv⟩ := hv
          refine WL.mul (r := (z39 * Pf)) rfl rfl (wr o45) rfl ?_
          refine WL.assign rfl rfl ?_
          refine WL.done ?_
          refine W.region ?_
          obtain ⟨o46, hv⟩ := hv
          refine WL.add (r := (z40 + (1 : Int))) rfl rfl (wr o46) rfl ?_
          refine WL.move rfl rfl ?_
          refine WL.done ?_
          change St _ _ _ _ [.row 3 1 A27 x26.length k28 (is x26), .ch lo21 hi22 (fun wz => GFX lo21 hi22 wz ad20 F19), .row 24 3 (some ⟨g11, 0, none⟩) 1 1 [.int .i64 Pf, .int .i64 Mf, .slice Af mf.length kf]] at hS
          exact ⟨((z39 * Pf), (z40 + (1 : Int))), ⟨rfl, rfl, rfl, rfl, rfl, rfl, rfl, rfl, trivial⟩, hv.2, rfl, hv.1, hS⟩
        · have hv := hv.2 (of_decide_eq_false c44)
          refine W.exit ?_
          refine W.seq ?_
          refine W.region ?_
          refine WL.move rfl rfl ?_
          refine WL.eqlD rfl rfl rfl ?_
          refine WL.move rfl rfl ?_
          by_cases g47 : r30 = (0 : Int)
          · have hv := hv.1 g47
            rw [decide_eq_true g47]
            refine WL.take rfl ?_
            refine WL.move rfl rfl ?_
            refine WL.take rfl ?_
            refine WL.len Try.underlying22 rfl rfl ?_
            refine WL.take rfl ?_
            refine WL.move rfl rfl ?_
            refine WL.take rfl ?_
            refine WL.eqlD rfl rfl rfl ?_
            refine WL.pick rfl rfl rfl ?_
            refine WL.move rfl rfl ?_
            by_cases g48 : ((x26.length : Nat) : Int) = z39
            · have hv := hv.1 g48
              rw [decide_eq_true g48]
              refine WL.take rfl ?_
              refine WL.move rfl rfl ?_
              refine WL.take rfl ?_
              refine WL.loadV (cs := [.int .i64 Pf, .int .i64 Mf, .slice Af mf.length kf]) Try.el24 Try.agg24 rfl rfl (Own.vcells (hS.own (i := 2) rfl)) rfl ?_
              refine WL.take rfl ?_
              refine WL.move rfl rfl ?_
              refine WL.take rfl ?_
              refine SL.call hS (ok_rsubfield (hS.ro hf) hv) Try.func30 rfl Try.nm30 rfl rfl ?_
              rintro _ _ w49 ⟨x50, A51, k52, rfl, rfl, hv⟩ hGw49 hS
              change St _ _ _ _ [.row 3 1 A51 x50.length k52 (is x50), .row 3 1 A27 x26.length k28 (is x26), .ch lo21 hi22 (fun wz => GFX lo21 hi22 wz ad20 F19), .row 24 3 (some ⟨g11, 0, none⟩) 1 1 [.int .i64 Pf, .int .i64 Mf, .slice Af mf.length kf]] at hS
              refine WL.take rfl ?_
              refine SL.call hS (ok_lsame (hS.rd (i := 1) rfl) (hS.rd (i := 0) rfl) hv) Try.func29 rfl Try.nm29 rfl rfl ?_
              rintro _ _ w54 ⟨r55, rfl, rfl, hv⟩ hGw54 hS
              change St _ _ _ _ [.row 3 1 A51 x50.length k52 (is x50), .row 3 1 A27 x26.length k28 (is x26), .ch lo21 hi22 (fun wz => GFX lo21 hi22 wz ad20 F19), .row 24 3 (some ⟨g11, 0, none⟩) 1 1 [.int .i64 Pf, .int .i64 Mf, .slice Af mf.length kf]] at hS
              refine WL.pick rfl rfl rfl ?_
              refine WL.assign rfl rfl ?_
              refine WL.done ?_
              refine W.ret ?_
              refine ⟨_, rfl, Fin.nil ?_⟩
              exact ⟨_, hS.ext, (hS.pick [] rfl).rows, News.of (hS.pick [] rfl).rows rfl, ⟨r55, rfl, rfl, hv⟩⟩
            · have hv := hv.2 g48
              rw [decide_eq_false g48]
              refine WL.pass rfl rfl rfl ?_
              refine WL.pass rfl rfl rfl ?_
              refine WL.pass rfl rfl rfl ?_
              refine WL.pass rfl rfl rfl ?_
              refine WL.pass rfl rfl rfl ?_
              refine WL.pick rfl rfl rfl ?_
              refine WL.assign rfl rfl ?_
              refine WL.done ?_
              refine W.ret ?_
              refine ⟨_, rfl, Fin.nil ?_⟩
              exact ⟨_, hS.ext, (hS.pick [] rfl).rows, News.of (hS.pick [] rfl).rows rfl, ⟨false, rfl, rfl, hv⟩⟩
          · have hv := hv.2 g47
            rw [decide_eq_false g47]
            refine WL.pass rfl rfl rfl ?_
            refine WL.pass rfl rfl rfl ?_
            refine WL.pass rfl rfl rfl ?_
            refine WL.pass rfl rfl rfl ?_
            refine WL.pick rfl rfl rfl ?_
            refine WL.move rfl rfl ?_
            refine WL.pass rfl rfl rfl ?_
            refine WL.pass rfl rfl rfl ?_
            refine WL.pass rfl rfl rfl ?_
            refine WL.pass rfl rfl rfl ?_
            refine WL.pass rfl rfl rfl ?_
            refine WL.pick rfl rfl rfl ?_
            refine WL.assign rfl rfl ?_
            refine WL.done ?_
            refine W.ret ?_
            refine ⟨_, rfl, Fin.nil ?_⟩
            exact ⟨_, hS.ext, (hS.pick [] rfl).rows, News.of (hS.pick [] rfl).rows rfl, ⟨false, rfl, rfl, hv⟩⟩

end Go.Proofs.Ythjpminlkcklgaa
set_option linter.unusedVariables false
set_option linter.unusedSimpArgs false
namespace Go.Proofs.Ythjpminlkcklgaa
section
variable {F : GFv} {p m v g : Nat} {P M : Int} {mf : List Int}
theorem w_rsubfield {c : Nat} {Q : List Int → Prop} (K : GFk F p m v g) (hF : FV P M mf p m v) (hc : c ≤ 1000) (h : Q (subL p m v c (p ^ m))) : V_rsubfield P M mf (c : Int) Q := by
  have hq := hF.q
  refine ⟨fun l z => ∃ n : Nat, z = n ∧ n ≤ p ^ m ∧ l = subL p m v c n, fun l z => (((p ^ m : Nat) : Int) - z).toNat, ⟨0, rfl, Nat.zero_le _, rfl⟩, ?_⟩
  rintro _ _ ⟨n, rfl, hn, rfl⟩
  have hl := subL_len p m v c n
  refine v_rOrder ?_
  rw [hF.ord]
  dsimp only
  refine ⟨fun hlt => ?_, fun hge => ?_⟩
  · have hnq : n < p ^ m := Int.ofNat_lt.1 hlt
    refine ⟨fun l b => l = subL p m v c (n + 1), w_rin K hF (by omega) ⟨fun hb => ⟨by omega, ?_⟩, fun hb => ?_⟩, fun l b hlb => ?_⟩
    · have hb := of_decide_eq_true hb
      rw [inE_nat hnq] at hb
      rw [subL_succ, if_pos hb]
    · have hb := of_decide_eq_false hb
      rw [inE_nat hnq] at hb
      rw [subL_succ, if_neg hb]
    · rw [hlb]
      exact ⟨small (by omega) (by omega), ⟨n + 1, by push_cast; rfl, by omega, rfl⟩, by omega⟩
  · have hnq : n = p ^ m := Nat.le_antisymm hn (Int.ofNat_le.1 (by omega))
    rw [hnq] at *; exact h
theorem law_TowerSubfields (d : Int) : V_TowerSubfields P M mf d (fun b => b = true) := by
  refine w_alive (nb (w_made (fun _ => rfl) fun F p m v g K hF => ?_))
  have hm8 := hF.m8
  have hq := hF.q
  refine w_subfield K (fun hn => w_tdivides hF (fun c t e h1 h2 => absurd ⟨c, t, e, h1, h2⟩ hn) fun _ => nf ⟨fun _ => rfl, fun h => absurd rfl h⟩) fun c t e hc hm => ?_
  subst e
  have hcm := cm_le hF.m0 hm
  refine w_tdivides hF (fun c' t' e h1 h2 => nb ?_) fun hn => absurd ⟨c, t, rfl, hc, hm⟩ hn
  refine ⟨fun z i => ∃ n : Nat, i = n ∧ n ≤ c ∧ z = ((p ^ n : Nat) : Int), fun z i => (c - i).toNat, ⟨0, rfl, Nat.zero_le _, rfl⟩, ?_⟩
  rintro _ _ ⟨n, rfl, hn, rfl⟩
  dsimp only
  refine ⟨fun hlt => ?_, fun hge => ?_⟩
  · have h5 := ppow hF (i := n + 1) (by omega)
    have h6 : ((p ^ n : Nat) : Int) * P = ((p ^ (n + 1) : Nat) : Int) := by rw [Nat.pow_succ, hF.eP]; push_cast; rfl
    rw [h6]
    exact ⟨smallN (by omega), small (by omega) (by omega), ⟨n + 1, by push_cast; rfl, by omega, rfl⟩, by omega⟩
  · obtain rfl : n = c := by omega
    have hl := subL_len p m v n (p ^ m)
    refine ⟨fun _ => ⟨fun _ => w_rsubfield K hF (by omega) (w_lsame (by omega) (decide_eq_true rfl)), fun hne => absurd ?_ hne⟩, fun hne => absurd rfl hne⟩
    rw [subL_count K hF hc hm]
end
end Go.Proofs.Ythjpminlkcklgaa
