/- What only this law leans on. -/
import Derived.Test.YthjpminlkcklgaaTowerSubfieldsG9
set_option linter.unusedVariables false
namespace Go.Proofs.Ythjpminlkcklgaa
open Go.RowKit
theorem Try.nm38 : (Try.f38.name == "runtime.NumGoroutine") = false := by kernel_rfl
end Go.Proofs.Ythjpminlkcklgaa
set_option linter.unusedSimpArgs false
set_option linter.unusedVariables false
namespace Go.Proofs.Ythjpminlkcklgaa
open Go.RowKit
def V_rconj (Pf : Int) (Mf : Int) (mf : List Int) (x : Int) (d : Int) (Q : List Int → Prop) : Prop :=
  V_rIn Pf Mf mf x (fun r14 => V_rfrob Pf Mf mf r14 d (fun r19 => ∃ (I32 : List Int → Int → Prop) (μ33 : List Int → Int → Nat), I32 ([r14] : List Int) r19 ∧ ∀ (x28 : List Int) (z31 : Int), (I32 x28 z31 → (((z31 ≠ r14) → ((((x28.length : Nat) + (1 : Nat) : Int) * 8 ≤ 140737488355328) ∧ (V_rfrob Pf Mf mf z31 d (fun r44 => I32 (x28 ++ ([z31] : List Int)) r44 ∧ μ33 (x28 ++ ([z31] : List Int)) r44 < μ33 x28 z31)))) ∧ (¬ (z31 ≠ r14) → Q x28)))))
theorem ok_rconj {w : World} {Q : List Int → Prop} {Pf : Int} {Mf : Int} {mf : List Int} {x : Int} {d : Int} {Bf : Nat} {Af : Option Addr} {nf kf : Nat} (hf : Rd Bf w 1 Af nf kf (is mf)) (hv : V_rconj Pf Mf mf x d Q) :
    Calls Try.prog 38 #[.agg #[.int .i64 Pf, .int .i64 Mf, .slice Af nf kf], .int .i64 x, .int .i64 d] w fun e w' => ∃ v Qr, e = .returned v ∧ w.grownBy w' none ∧ Rows w.heap.size none w' Qr ∧ News w.heap.size Qr ∧ ∃ (r0 : List Int) (Ar0 : Option Addr) (cr0 : Nat), v = .slice Ar0 r0.length cr0 ∧ Qr = [.row 3 1 Ar0 r0.length cr0 (is r0)] ∧ Q r0 := by
  have hnf := hf.ilen
  subst hnf
  refine calls_swap ?_
  refine calls_of_W (vs := [.agg #[.int .i64 Pf, .int .i64 Mf, .slice Af mf.length kf], .int .i64 x, .int .i64 d]) [6] Try.func38 rfl rfl rfl rfl ?_
  have hS := St.start w
  unfold V_rconj at hv
  refine W.seq ?_
  refine W.region ?_
  refine SL.box (z := 3) (cs := [.int .i64 Pf, .int .i64 Mf, .slice Af mf.length kf]) hS rfl rfl rfl rfl ?_
  intro g11 w12 hS
  refine WL.assign rfl rfl ?_
  refine WL.done ?_
  refine W.seq ?_
  refine W.region ?_
  refine WL.loadV (cs := [.int .i64 Pf, .int .i64 Mf, .slice Af mf.length kf]) Try.el24 Try.agg24 rfl rfl (Own.vcells (hS.own (i := 0) rfl)) rfl ?_
  refine WL.move rfl rfl ?_
  refine SL.call hS (ok_rIn (hS.ro hf) hv) Try.func26 rfl Try.nm26 rfl rfl ?_
  rintro _ _ w13 ⟨r14, rfl, rfl, hv⟩ hGw13 hS
  change St _ _ _ _ [.row 24 3 (some ⟨g11, 0, none⟩) 1 1 [.int .i64 Pf, .int .i64 Mf, .slice Af mf.length kf]] at hS
  refine WL.assign rfl rfl ?_
  refine WL.done ?_
  refine W.seq ?_
  refine W.region ?_
  refine WL.move rfl rfl ?_
  refine SL.lit1 (vs := is ([r14] : List Int)) hS Try.underlying22 Try.el3 rfl rfl rfl rfl (is_one _) rfl ?_
  intro A15 w16 hS
  refine WL.assign rfl rfl ?_
  refine WL.done ?_
  refine W.seq ?_
  refine W.seq ?_
  refine W.region ?_
  refine WL.loadV (cs := [.int .i64 Pf, .int .i64 Mf, .slice Af mf.length kf]) Try.el24 Try.agg24 rfl rfl (Own.vcells (hS.own (i := 1) rfl)) rfl ?_
  refine WL.move rfl rfl ?_
  refine WL.move rfl rfl ?_
  refine SL.call hS (ok_rfrob (hS.ro hf) hv) Try.func23 rfl Try.nm23 rfl rfl ?_
  rintro _ _ w18 ⟨r19, rfl, rfl, hv⟩ hGw18 hS
  change St _ _ _ _ [.row 3 1 A15 1 1 (is ([r14] : List Int)), .row 24 3 (some ⟨g11, 0, none⟩) 1 1 [.int .i64 Pf, .int .i64 Mf, .slice Af mf.length kf]] at hS
  refine WL.assign rfl rfl ?_
  refine WL.done ?_
  refine W.block ?_
  obtain ⟨I32, μ33, hv, hk45⟩ := hv
  have hm0 : 1 = ([r14] : List Int).length := (hS.rd (i := 0) rfl).ilen.symm
  have hS := hS.relen (i := 0) rfl hm0
  change St _ _ _ _ [.row 3 1 A15 ([r14] : List Int).length 1 (is ([r14] : List Int)), .row 24 3 (some ⟨g11, 0, none⟩) 1 1 [.int .i64 Pf, .int .i64 Mf, .slice Af mf.length kf]] at hS
  refine W.loop (σ := List Int × Int × Option Addr × Nat) (fun q w1 => match q with | (x28, z31, A29, k30) => I32 x28 z31 ∧ St TT w none w1 [.row 3 1 A29 x28.length k30 (is x28), .row 24 3 (some ⟨g11, 0, none⟩) 1 1 [.int .i64 Pf, .int .i64 Mf, .slice Af mf.length kf]]) (fun q => match q with | (x28, z31, A29, k30) => [(1, .int .i64 r14), (2, .int .i64 d), (3, .pointer (some ⟨g11, 0, none⟩)), (6, .slice none 0 0), (7, .slice A29 x28.length k30), (8, .int .i64 z31)]) (fun q => match q with | (x28, z31, A29, k30) => μ33 x28 z31) (([r14] : List Int), r19, A15, 1) ⟨hv, hS⟩ ⟨rfl, rfl, rfl, rfl, (sm (by first | rfl | assumption | omega)), rfl, trivial⟩ ?_
  rintro ⟨x28, z31, A29, k30⟩ w34 ⟨hv, hS⟩
  have hv := hk45 x28 z31 hv
  refine W.seq ?_
  refine W.seq ?_
  refine W.region ?_
  refine WL.move rfl rfl ?_
  refine WL.move rfl rfl ?_
  refine WL.neqD rfl rfl rfl ?_
  refine WL.done ?_
  refine W.cond2 rfl (fun c35 => ?_) (fun c35 => ?_)
  · have hv := hv.1 (of_decide_eq_true c35)
    refine W.skip ?_
    refine W.seq ?_
    refine W.block ?_
    refine W.region ?_
    refine WL.move rfl rfl ?_
    refine WL.move rfl rfl ?_
    refine SL.lit1 (vs := is ([z31] : List Int)) hS Try.underlying22 Try.el3 rfl rfl rfl rfl (is_one _) rfl ?_
    intro A36 w37 hS
    obtain ⟨o39, hv⟩ := hv
    refine SL.append (cs := is x28) (cs' := is ([z31] : List Int)) 1 ((x28 ++ ([z31] : List Int)).length) (is (x28 ++ ([z31] : List Int))) hS rfl Try.underlying22 Try.el3 (hS.rd (i := 0) rfl) (is_one _) rfl rfl (apk o39).1 (apk o39).2 (is_ap (hS.rd (i := 1) rfl) (hS.rd (i := 0) rfl)) (is_append _ _) rfl ?_
    intro A40 k41 w42 hS
    refine WL.assign rfl rfl ?_
    refine WL.done ?_
    refine W.region ?_
    refine WL.loadV (cs := [.int .i64 Pf, .int .i64 Mf, .slice Af mf.length kf]) Try.el24 Try.agg24 rfl rfl (Own.vcells (hS.own (i := 2) rfl)) rfl ?_
    refine WL.move rfl rfl ?_
    refine WL.move rfl rfl ?_
    refine SL.call hS (ok_rfrob (hS.ro hf) hv) Try.func23 rfl Try.nm23 rfl rfl ?_
    rintro _ _ w43 ⟨r44, rfl, rfl, hv⟩ hGw43 hS
    change St _ _ _ _ [.row 3 1 A36 1 1 (is ([z31] : List Int)), .row 3 1 A40 ((x28 ++ ([z31] : List Int)).length) k41 (is (x28 ++ ([z31] : List Int))), .row 24 3 (some ⟨g11, 0, none⟩) 1 1 [.int .i64 Pf, .int .i64 Mf, .slice Af mf.length kf]] at hS
    refine WL.assign rfl rfl ?_
    refine WL.done ?_
    have hS := hS.pick [1, 2] rfl
    change St _ _ _ _ [.row 3 1 A40 (x28 ++ ([z31] : List Int)).length k41 (is (x28 ++ ([z31] : List Int))), .row 24 3 (some ⟨g11, 0, none⟩) 1 1 [.int .i64 Pf, .int .i64 Mf, .slice Af mf.length kf]] at hS
    exact ⟨(x28 ++ ([z31] : List Int), r44, A40, k41), ⟨rfl, rfl, rfl, rfl, rfl, rfl, trivial⟩, hv.2, rfl, hv.1, hS⟩
  · have hv := hv.2 (of_decide_eq_false c35)
    refine W.exit ?_
    refine W.seq ?_
    refine W.region ?_
    refine WL.move rfl rfl ?_
    refine WL.assign rfl rfl ?_
    refine WL.done ?_
    refine W.ret ?_
    refine ⟨_, rfl, Fin.nil ?_⟩
    exact ⟨_, hS.ext, (hS.pick [0] rfl).rows, News.of (hS.pick [0] rfl).rows rfl, ⟨x28, A29, k30, rfl, rfl, hv⟩⟩

end Go.Proofs.Ythjpminlkcklgaa
set_option linter.unusedSimpArgs false
set_option linter.unusedVariables false
namespace Go.Proofs.Ythjpminlkcklgaa
open Go.RowKit
def V_TowerConjugates (Pf : Int) (Mf : Int) (mf : List Int) (x : Int) (d : Int) (Q : Bool → Prop) : Prop :=
  V_alive  (fun r14 => (((!r14) = true) → Q false) ∧ ((!r14) = false → (V_made Pf Mf mf (fun q => match q with | none => Q true | some F19 => V_conj F19 x d (fun q => match q with | (x26, r30) => V_tdivides Pf Mf mf d (fun r32 => (((!r32) = true) → (((r30 = (6 : Int)) → (Q (decide (((x26.length : Nat) : Int) = (0 : Int))))) ∧ (¬ (r30 = (6 : Int)) → Q false))) ∧ ((!r32) = false → (((r30 = (0 : Int)) → (V_rconj Pf Mf mf x d (fun x37 => V_lsame x26 x37 (fun r42 => ((r42 = true) → ((d ≠ 0 ∧ I64 (Mf.tdiv d)) ∧ ((((x26.length : Nat) : Int) ≠ 0) ∧ (Q (decide (((Mf.tdiv d).tmod ((x26.length : Nat) : Int)) = (0 : Int))))))) ∧ (r42 = false → Q false))))) ∧ (¬ (r30 = (0 : Int)) → Q false)))))))))
theorem ok_TowerConjugates {w : World} {Q : Bool → Prop} {Pf : Int} {Mf : Int} {mf : List Int} {x : Int} {d : Int} {Bf : Nat} {Af : Option Addr} {nf kf : Nat} (hf : Rd Bf w 1 Af nf kf (is mf)) (hv : V_TowerConjugates Pf Mf mf x d Q) :
    Calls Try.prog 8 #[.agg #[.int .i64 Pf, .int .i64 Mf, .slice Af nf kf], .int .i64 x, .int .i64 d] w fun e w' => ∃ v Qr, e = .returned v ∧ w.grownBy w' none ∧ Rows w.heap.size none w' Qr ∧ News w.heap.size Qr ∧ ∃ (r0 : Bool), v = .bool r0 ∧ Qr = [] ∧ Q r0 := by
  have hnf := hf.ilen
  subst hnf
  refine calls_swap ?_
  refine calls_of_W (vs := [.agg #[.int .i64 Pf, .int .i64 Mf, .slice Af mf.length kf], .int .i64 x, .int .i64 d]) [6] Try.func8 rfl rfl rfl rfl ?_
  have hS := St.start w
  unfold V_TowerConjugates at hv
  refine W.seq ?_
  refine W.region ?_
  refine SL.box (z := 3) (cs := [.int .i64 Pf, .int .i64 Mf, .slice Af mf.length kf]) hS rfl rfl rfl rfl ?_
  intro g11 w12 hS
  refine WL.assign rfl rfl ?_
  refine WL.done ?_
  refine W.seq ?_
  refine W.seq ?_
  refine W.region ?_
  refine SL.call hS (ok_alive  hv) Try.func20 rfl Try.nm20 rfl rfl ?_
  rintro _ _ w13 ⟨r14, rfl, rfl, hv⟩ hGw13 hS
  change St _ _ _ _ [.row 24 3 (some ⟨g11, 0, none⟩) 1 1 [.int .i64 Pf, .int .i64 Mf, .slice Af mf.length kf]] at hS
  refine WL.not rfl rfl ?_
  refine WL.done ?_
  refine W.cond2 rfl (fun c15 => ?_) (fun c15 => ?_)
  · have hv := hv.1 (c15)
    refine W.seq ?_
    refine W.region ?_
    refine WL.assign rfl rfl ?_
    refine WL.done ?_
    refine W.ret ?_
    refine ⟨_, rfl, Fin.nil ?_⟩
    exact ⟨_, hS.ext, (hS.pick [] rfl).rows, News.of (hS.pick [] rfl).rows rfl, ⟨false, rfl, rfl, hv⟩⟩
  · have hv := hv.2 (c15)
    refine W.skip ?_
    refine W.seq ?_
    refine W.region ?_
    refine WL.loadV (cs := [.int .i64 Pf, .int .i64 Mf, .slice Af mf.length kf]) Try.el24 Try.agg24 rfl rfl (Own.vcells (hS.own (i := 0) rfl)) rfl ?_
    refine SL.call hS (ok_made (hS.ro hf) hv) Try.func21 rfl Try.nm21 rfl rfl ?_
    rintro _ _ w17 ⟨o, hv, hK⟩ hGw17 hS
    cases o with
    | none =>
      obtain ⟨rfl, rfl⟩ := hK
      change St _ _ _ _ [.row 24 3 (some ⟨g11, 0, none⟩) 1 1 [.int .i64 Pf, .int .i64 Mf, .slice Af mf.length kf]] at hS
      refine WL.assign rfl rfl ?_
      refine WL.done ?_
      refine W.seq ?_
      refine W.seq ?_
      refine W.region ?_
      refine WL.move rfl rfl ?_
      refine WL.eqlPn Try.underlying26 rfl rfl rfl rfl ?_
      refine WL.done ?_
      refine W.condT rfl ?_
      refine W.seq ?_
      refine W.region ?_
      refine WL.assign rfl rfl ?_
      refine WL.done ?_
      refine W.ret ?_
      refine ⟨_, rfl, Fin.nil ?_⟩
      exact ⟨_, hS.ext, (hS.pick [] rfl).rows, News.of (hS.pick [] rfl).rows rfl, ⟨true, rfl, rfl, hv⟩⟩
    | some F19 =>
      obtain ⟨ad20, lo21, hi22, rfl, rfl⟩ := hK
      change St _ _ _ _ [.ch lo21 hi22 (fun wz => GFX lo21 hi22 wz ad20 F19), .row 24 3 (some ⟨g11, 0, none⟩) 1 1 [.int .i64 Pf, .int .i64 Mf, .slice Af mf.length kf]] at hS
      refine WL.assign rfl rfl ?_
      refine WL.done ?_
      refine W.seq ?_
      refine W.seq ?_
      refine W.region ?_
      refine WL.move rfl rfl ?_
      refine WL.eqlPn Try.underlying26 rfl rfl rfl rfl ?_
      refine WL.done ?_
      refine W.condF rfl ?_
      refine W.skip ?_
      refine W.seq ?_
      refine W.region ?_
      refine WL.move rfl rfl ?_
      refine WL.move rfl rfl ?_
      refine WL.move rfl rfl ?_
      refine SL.call hS (ok_conj (GFX.gfr (hS.chunk (i := 0) rfl)) hv) Try.func37 rfl Try.nm37 rfl rfl ?_
      rintro _ _ w25 ⟨x26, r30, A27, k28, rfl, rfl, hv⟩ hGw25 hS
      change St _ _ _ _ [.row 3 1 A27 x26.length k28 (is x26), .ch lo21 hi22 (fun wz => GFX lo21 hi22 wz ad20 F19), .row 24 3 (some ⟨g11, 0, none⟩) 1 1 [.int .i64 Pf, .int .i64 Mf, .slice Af mf.length kf]] at hS
      refine WL.move rfl rfl ?_
      refine WL.extract rfl rfl rfl ?_
      refine WL.extract rfl rfl rfl ?_
      refine WL.assign rfl rfl ?_
      refine WL.assign rfl rfl ?_
      refine WL.done ?_
      refine W.seq ?_
      refine W.seq ?_
      refine W.region ?_
      refine WL.loadV (cs := [.int .i64 Pf, .int .i64 Mf, .slice Af mf.length kf]) Try.el24 Try.agg24 rfl rfl (Own.vcells (hS.own (i := 2) rfl)) rfl ?_
      refine WL.move rfl rfl ?_
      refine SL.call hS (ok_tdivides (hS.ro hf) hv) Try.func28 rfl Try.nm28 rfl rfl ?_
      rintro _ _ w31 ⟨r32, rfl, rfl, hv⟩ hGw31 hS
      change St _ _ _ _ [.row 3 1 A27 x26.length k28 (is x26), .ch lo21 hi22 (fun wz => GFX lo21 hi22 wz ad20 F19), .row 24 3 (some ⟨g11, 0, none⟩) 1 1 [.int .i64 Pf, .int .i64 Mf, .slice Af mf.length kf]] at hS
      refine WL.not rfl rfl ?_
      refine WL.done ?_
      refine W.cond2 rfl (fun c33 => ?_) (fun c33 => ?_)
      · have hv := hv.1 (c33)
        refine W.seq ?_
        refine W.region ?_
        refine WL.move rfl rfl ?_
        refine WL.eqlD rfl rfl rfl ?_
        refine WL.move rfl rfl ?_
        by_cases g34 : r30 = (6 : Int)
        · have hv := hv.1 g34
          rw [decide_eq_true g34]
          refine WL.take rfl ?_
          refine WL.move rfl rfl ?_
          refine WL.take rfl ?_
          refine WL.len Try.underlying22 rfl rfl ?_
          refine WL.take rfl ?_
          refine WL.eqlD rfl rfl rfl ?_
          refine WL.pick rfl rfl rfl ?_
          refine WL.assign rfl rfl ?_
          refine WL.done ?_
          refine W.ret ?_
          refine ⟨_, rfl, Fin.nil ?_⟩
          exact ⟨_, hS.ext, (hS.pick [] rfl).rows, News.of (hS.pick [] rfl).rows rfl, ⟨(decide (((x26.length : Nat) : Int) = (0 : Int))), rfl, rfl, hv⟩⟩
        · have hv := hv.2 g34
          rw [decide_eq_false g34]
          refine WL.pass rfl rfl rfl ?_
          refine WL.pass rfl rfl rfl ?_
          refine WL.pass rfl rfl rfl ?_
          refine WL.pick rfl rfl rfl ?_
          refine WL.assign rfl rfl ?_
          refine WL.done ?_
          refine W.ret ?_
          refine ⟨_, rfl, Fin.nil ?_⟩
          exact ⟨_, hS.ext, (hS.pick [] rfl).rows, News.of (hS.pick [] rfl).rows rfl, ⟨false, rfl, rfl, hv⟩⟩
      · have hv := hv.2 (c33)
        refine W.skip ?_
        refine W.seq ?_
        refine W.region ?_
        refine WL.move rfl rfl ?_
        refine WL.eqlD rfl rfl rfl ?_
        refine WL.move rfl rfl ?_
        by_cases g35 : r30 = (0 : Int)
        · have hv := hv.1 g35
          rw [decide_eq_true g35]
          refine WL.take rfl ?_
          refine WL.move rfl rfl ?_
          refine WL.take rfl ?_
          refine WL.loadV (cs := [.int .i64 Pf, .int .i64 Mf, .slice Af mf.length kf]) Try.el24 Try.agg24 rfl rfl (Own.vcells (hS.own (i := 2) rfl)) rfl ?_
          refine WL.take rfl ?_
          refine WL.move rfl rfl ?_
          refine WL.take rfl ?_
          refine WL.move rfl rfl ?_
          refine WL.take rfl ?_
          refine SL.call hS (ok_rconj (hS.ro hf) hv) Try.func38 rfl Try.nm38 rfl rfl ?_
          rintro _ _ w36 ⟨x37, A38, k39, rfl, rfl, hv⟩ hGw36 hS
          change St _ _ _ _ [.row 3 1 A38 x37.length k39 (is x37), .row 3 1 A27 x26.length k28 (is x26), .ch lo21 hi22 (fun wz => GFX lo21 hi22 wz ad20 F19), .row 24 3 (some ⟨g11, 0, none⟩) 1 1 [.int .i64 Pf, .int .i64 Mf, .slice Af mf.length kf]] at hS
          refine WL.take rfl ?_
          refine SL.call hS (ok_lsame (hS.rd (i := 1) rfl) (hS.rd (i := 0) rfl) hv) Try.func29 rfl Try.nm29 rfl rfl ?_
          rintro _ _ w41 ⟨r42, rfl, rfl, hv⟩ hGw41 hS
          change St _ _ _ _ [.row 3 1 A38 x37.length k39 (is x37), .row 3 1 A27 x26.length k28 (is x26), .ch lo21 hi22 (fun wz => GFX lo21 hi22 wz ad20 F19), .row 24 3 (some ⟨g11, 0, none⟩) 1 1 [.int .i64 Pf, .int .i64 Mf, .slice Af mf.length kf]] at hS
          refine WL.pick rfl rfl rfl ?_
          refine WL.move rfl rfl ?_
          cases g43 : r42
          · have hv := hv.2 g43
            refine WL.pass rfl rfl rfl ?_
            refine WL.pass rfl rfl rfl ?_
            refine WL.pass rfl rfl rfl ?_
            refine WL.pass rfl rfl rfl ?_
            refine WL.pass rfl rfl rfl ?_
            refine WL.pass rfl rfl rfl ?_
            refine WL.pass rfl rfl rfl ?_
            refine WL.pass rfl rfl rfl ?_
            refine WL.pick rfl rfl rfl ?_
            refine WL.assign rfl rfl ?_
            refine WL.done ?_
            refine W.ret ?_
            refine ⟨_, rfl, Fin.nil ?_⟩
            exact ⟨_, hS.ext, (hS.pick [] rfl).rows, News.of (hS.pick [] rfl).rows rfl, ⟨false, rfl, rfl, hv⟩⟩
          · have hv := hv.1 g43
            refine WL.take rfl ?_
            refine WL.fieldA (off := 1) Try.fla24_1 rfl rfl ?_
            refine WL.take rfl ?_
            refine WL.load Try.underlying3 rfl rfl (Own.vcells (hS.own (i := 3) rfl) 1 _ rfl) rfl ?_
            refine WL.take rfl ?_
            refine WL.move rfl rfl ?_
            refine WL.take rfl ?_
            obtain ⟨o44, hv⟩ := hv
            refine WL.quo (r := (Mf.tdiv d)) rfl rfl o44.1 (wr o44.2) rfl ?_
            refine WL.take rfl ?_
            refine WL.move rfl rfl ?_
            refine WL.take rfl ?_
            refine WL.len Try.underlying22 rfl rfl ?_
            refine WL.take rfl ?_
            obtain ⟨o45, hv⟩ := hv
            refine WL.rem (r := ((Mf.tdiv d).tmod ((x26.length : Nat) : Int))) rfl rfl o45 rfl rfl ?_
            refine WL.take rfl ?_
            refine WL.eqlD rfl rfl rfl ?_
            refine WL.pick rfl rfl rfl ?_
            refine WL.assign rfl rfl ?_
            refine WL.done ?_
            refine W.ret ?_
            refine ⟨_, rfl, Fin.nil ?_⟩
            exact ⟨_, hS.ext, (hS.pick [] rfl).rows, News.of (hS.pick [] rfl).rows rfl, ⟨(decide (((Mf.tdiv d).tmod ((x26.length : Nat) : Int)) = (0 : Int))), rfl, rfl, hv⟩⟩
        · have hv := hv.2 g35
          rw [decide_eq_false g35]
          refine WL.pass rfl rfl rfl ?_
          refine WL.pass rfl rfl rfl ?_
          refine WL.pass rfl rfl rfl ?_
          refine WL.pass rfl rfl rfl ?_
          refine WL.pass rfl rfl rfl ?_
          refine WL.pass rfl rfl rfl ?_
          refine WL.pick rfl rfl rfl ?_
          refine WL.move rfl rfl ?_
          refine WL.pass rfl rfl rfl ?_
          refine WL.pass rfl rfl rfl ?_
          refine WL.pass rfl rfl rfl ?_
          refine WL.pass rfl rfl rfl ?_
          refine WL.pass rfl rfl rfl ?_
          refine WL.pass rfl rfl rfl ?_
          refine WL.pass rfl rfl rfl ?_
          refine WL.pass rfl rfl rfl ?_
          refine WL.pick rfl rfl rfl ?_
          refine WL.assign rfl rfl ?_
          refine WL.done ?_
          refine W.ret ?_
          refine ⟨_, rfl, Fin.nil ?_⟩
          exact ⟨_, hS.ext, (hS.pick [] rfl).rows, News.of (hS.pick [] rfl).rows rfl, ⟨false, rfl, rfl, hv⟩⟩

end Go.Proofs.Ythjpminlkcklgaa
set_option linter.unusedVariables false
set_option linter.unusedSimpArgs false
namespace Go.Proofs.Ythjpminlkcklgaa
section
variable {F : GFv} {p m v g : Nat} {P M : Int} {mf : List Int}
theorem pe_mod (K : GFk F p m v g) {x c t u : Nat} (hx : x < p ^ m) (hm : m = c * t) (hP : Pe (fmul p m (dv p v)) (p ^ c) x u) : t % u = 0 := by
  refine (hP.iff K.fv.ring hx t).1 ?_
  rw [← Nat.pow_mul, ← hm]; exact K.G.xq K.fv.ring hx
theorem orb_succ {c u x : Nat} : orb p m v c (u + 1) x = orb p m v c u x ++ [((pw (fmul p m (dv p v)) x (p ^ (c * u)) : Nat) : Int)] := by
  unfold orb
  rw [List.range_succ, List.map_append]; rfl
theorem w_rconj {x : Int} {c t u : Nat} {Q : List Int → Prop} (K : GFk F p m v g) (hF : FV P M mf p m v) (hc : 0 < c) (hm : m = c * t) (hu : u ≤ t) (hP : Pe (fmul p m (dv p v)) (p ^ c) (inE (p ^ m) x) u) (h : Q (orb p m v c u (inE (p ^ m) x))) : V_rconj P M mf x (c : Int) Q := by
  have R := K.fv.ring
  have hx := inE_lt R.pos x
  have hm8 := hF.m8
  have hcm := cm_le hF.m0 hm
  have hu0 := hP.pos
  refine v_rIn hF (w_rfrob K hF (by omega) ?_)
  rw [inE_nat hx]
  refine ⟨fun l z => ∃ j : Nat, 1 ≤ j ∧ j ≤ u ∧ l = orb p m v c j (inE (p ^ m) x) ∧ z = ((pw (fmul p m (dv p v)) (inE (p ^ m) x) (p ^ (c * j)) : Nat) : Int), fun l z => u - l.length, ⟨1, Nat.le_refl 1, hu0, ?_, by rw [Nat.mul_one]⟩, ?_⟩
  · unfold orb
    simp [R.fr_zero hx, R.pw_one hx]
  rintro _ _ ⟨j, hj1, hj, rfl, rfl⟩
  dsimp only
  rw [orb_len]
  refine ⟨fun hne => ⟨by omega, w_rfrob K hF (by omega) ?_⟩, fun he => ?_⟩
  · have hju : j ≠ u := fun e => hne (by rw [e, Nat.pow_mul, hP.back])
    rw [inE_nat (R.pw_lt _ _), R.fr_comp hx, ← Nat.mul_succ]
    refine ⟨⟨j + 1, by omega, by omega, orb_succ.symm, rfl⟩, ?_⟩
    rw [List.length_append, orb_len, List.length_singleton]; omega
  · have he2 : pw (fmul p m (dv p v)) (inE (p ^ m) x) ((p ^ c) ^ j) = inE (p ^ m) x := by
      rw [← Nat.pow_mul]; exact Int.ofNat.inj (Decidable.not_not.1 he)
    have : j = u := by
      rcases Nat.lt_or_ge j u with h1 | h1
      · exact absurd he2 (hP.no j hj1 h1)
      · omega
    rw [this]; exact h
theorem law_TowerConjugates (x d : Int) : V_TowerConjugates P M mf x d (fun b => b = true) := by
  refine w_alive (nb (w_made (fun _ => rfl) fun F p m v g K hF => ?_))
  have R := hF.ring
  have hx := inE_lt R.pos x
  have hm8 := hF.m8
  refine w_conj K (fun hn => w_tdivides hF (fun c t e h1 h2 => absurd ⟨c, t, e, h1, h2⟩ hn) fun _ => nf ⟨fun _ => rfl, fun h => absurd rfl h⟩) fun c t u e hc hm hu hP => ?_
  subst e
  have hcm := cm_le hF.m0 hm
  have hu0 := hP.pos
  refine w_tdivides hF (fun c' t' e h1 h2 => nb ⟨fun _ => w_rconj K hF hc hm hu hP (w_lsame (by rw [orb_len]; omega) ?_), fun h => absurd rfl h⟩) fun hn => absurd ⟨c, t, rfl, hc, hm⟩ hn
  rw [decide_eq_true rfl, orb_len, hF.eM, tdivN m c, show m / c = t by rw [hm, Nat.mul_div_cancel_left _ hc], tmodN t u, pe_mod K hx hm hP]
  exact ⟨fun _ => ⟨⟨by omega, small (by omega) (by omega)⟩, by omega, rfl⟩, fun h => absurd h (by decide)⟩
end
end Go.Proofs.Ythjpminlkcklgaa
