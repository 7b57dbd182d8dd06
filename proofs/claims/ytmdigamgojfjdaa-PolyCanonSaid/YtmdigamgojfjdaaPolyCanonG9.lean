/- Contracts of functions of the program, and what they lean on: D9, D10, D11, P2, P3, P4, P5, P6, P7. -/
import Derived.Test.YtmdigamgojfjdaaPolyCanonG8
set_option linter.unusedSimpArgs false
set_option linter.unusedVariables false
namespace Go.Proofs.Ytmdigamgojfjdaa
open Go.RowKit
def V_rcanon (Pf : Int) (Mf : Int) (mf : List Int) (p : List Int) (Q : List Int → Prop) : Prop :=
  ∃ (I19 : Int → Int → Prop) (μ20 : Int → Int → Nat), I19 (0 : Int) (0 : Int) ∧ ∀ (z17 : Int) (z18 : Int), (I19 z17 z18 → (((z18 < ((p.length : Nat) : Int)) → (∃ J25 : Int → Bool → Prop, ((0 ≤ z18 ∧ z18 < (p.length : Nat)) ∧ (∃ (r33 : Int), V_rIn Pf Mf mf (gi p z18) (fun q => q = r33) ∧ (((r33 ≠ (0 : Int)) → ((I64 (z18 + (1 : Int))) ∧ (J25 (z18 + (1 : Int)) (decide (r33 ≠ (0 : Int)))))) ∧ (¬ (r33 ≠ (0 : Int)) → (J25 z17 (decide (r33 ≠ (0 : Int)))))))) ∧ ∀ (z23 : Int) (b24 : Bool), (J25 z23 b24 → ((I64 (z18 + (1 : Int))) ∧ (I19 z23 (z18 + (1 : Int)) ∧ μ20 z23 (z18 + (1 : Int)) < μ20 z17 z18))))) ∧ (¬ (z18 < ((p.length : Nat) : Int)) → ((0 ≤ z17 ∧ z17 * 8 ≤ 281474976710656 ∧ z17 ≤ 281474976710656) ∧ (∃ (I53 : List Int → Int → Prop) (μ54 : List Int → Int → Nat), I53 (List.replicate z17.toNat (0 : Int)) (0 : Int) ∧ ∀ (x51 : List Int) (z52 : Int), (I53 x51 z52 → (((z52 < z17) → ((0 ≤ z52 ∧ z52 < (p.length : Nat)) ∧ (∃ (r66 : Int), V_rIn Pf Mf mf (gi p z52) (fun q => q = r66) ∧ ((0 ≤ z52 ∧ z52 < (z17.toNat : Nat)) ∧ ((I64 (z52 + (1 : Int))) ∧ (I53 (si x51 z52 r66) (z52 + (1 : Int)) ∧ μ54 (si x51 z52 r66) (z52 + (1 : Int)) < μ54 x51 z52)))))) ∧ (¬ (z52 < z17) → Q x51))))))))
theorem ok_rcanon {w : World} {Q : List Int → Prop} {Pf : Int} {Mf : Int} {mf : List Int} {p : List Int} {Bf : Nat} {Af : Option Addr} {nf kf : Nat} (hf : Rd Bf w 1 Af nf kf (is mf)) {Bp : Nat} {Ap : Option Addr} {np kp : Nat} (hp : Rd Bp w 1 Ap np kp (is p)) (hv : V_rcanon Pf Mf mf p Q) :
    Calls Try.prog 24 #[.agg #[.int .i64 Pf, .int .i64 Mf, .slice Af nf kf], .slice Ap np kp] w fun e w' => ∃ v Qr, e = .returned v ∧ w.grownBy w' none ∧ Rows w.heap.size none w' Qr ∧ News w.heap.size Qr ∧ ∃ (r0 : List Int) (Ar0 : Option Addr) (cr0 : Nat), v = .slice Ar0 r0.length cr0 ∧ Qr = [.row 3 1 Ar0 r0.length cr0 (is r0)] ∧ Q r0 := by
  have hnf := hf.ilen
  subst hnf
  have hnp := hp.ilen
  subst hnp
  refine calls_swap ?_
  refine calls_of_W (vs := [.agg #[.int .i64 Pf, .int .i64 Mf, .slice Af mf.length kf], .slice Ap p.length kp]) [4] Try.func24 rfl rfl rfl rfl ?_
  have hS := St.start w
  unfold V_rcanon at hv
  refine W.seq ?_
  refine W.region ?_
  refine SL.box (z := 3) (cs := [.int .i64 Pf, .int .i64 Mf, .slice Af mf.length kf]) hS rfl rfl rfl rfl ?_
  intro g11 w12 hS
  refine WL.assign rfl rfl ?_
  refine WL.done ?_
  refine W.seq ?_
  refine W.region ?_
  refine WL.assign rfl rfl ?_
  refine WL.done ?_
  refine W.seq ?_
  refine W.seq ?_
  refine W.region ?_
  refine WL.assign rfl rfl ?_
  refine WL.done ?_
  refine W.block ?_
  obtain ⟨I19, μ20, hv, hk74⟩ := hv
  change St _ _ _ _ [.row 24 3 (some ⟨g11, 0, none⟩) 1 1 [.int .i64 Pf, .int .i64 Mf, .slice Af mf.length kf]] at hS
  refine W.loop (σ := Int × Int) (fun q w1 => match q with | (z17, z18) => I19 z17 z18 ∧ St TT w none w1 [.row 24 3 (some ⟨g11, 0, none⟩) 1 1 [.int .i64 Pf, .int .i64 Mf, .slice Af mf.length kf]]) (fun q => match q with | (z17, z18) => [(1, .slice Ap p.length kp), (2, .pointer (some ⟨g11, 0, none⟩)), (4, .slice none 0 0), (5, .int .i64 z17), (6, .int .i64 z18)]) (fun q => match q with | (z17, z18) => μ20 z17 z18) ((0 : Int), (0 : Int)) ⟨hv, hS⟩ ⟨rfl, rfl, rfl, rfl, rfl, trivial⟩ ?_
  rintro ⟨z17, z18⟩ w21 ⟨hv, hS⟩
  have hv := hk74 z17 z18 hv
  refine W.seq ?_
  refine W.seq ?_
  refine W.region ?_
  refine WL.move rfl rfl ?_
  refine WL.move rfl rfl ?_
  refine WL.len Try.underlying22 rfl rfl ?_
  refine WL.lssD rfl rfl rfl ?_
  refine WL.done ?_
  refine W.cond2 rfl (fun c22 => ?_) (fun c22 => ?_)
  · have hv := hv.1 (of_decide_eq_true c22)
    refine W.skip ?_
    refine W.seq ?_
    obtain ⟨J25, hv, hk42⟩ := hv
    refine W.cutN (σ := Int × Bool) (fun q w1 => match q with | (z23, b24) => J25 z23 b24 ∧ St TT w none w1 [.row 24 3 (some ⟨g11, 0, none⟩) 1 1 [.int .i64 Pf, .int .i64 Mf, .slice Af mf.length kf]]) (fun q => match q with | (z23, b24) => [(1, .slice Ap p.length kp), (2, .pointer (some ⟨g11, 0, none⟩)), (4, .slice none 0 0), (5, .int .i64 z23), (6, .int .i64 z18), (12, .bool (decide (z18 < ((p.length : Nat) : Int)))), (21, .bool b24)]) ?_ ?_
    · refine W.block ?_
      refine W.seq ?_
      obtain ⟨o30, hv⟩ := hv
      obtain ⟨r33, o35, hv⟩ := hv
      have hS0 := hS
      refine W.drawX 7 (fun _ => false) (fun _ => none) [⟨[], [2], false⟩, ⟨[], [1], true⟩, ⟨[], [6], true⟩, ⟨[1, 2], [], true⟩, ⟨[3], [], false⟩, ⟨[0, 4], [], false⟩, ⟨[5], [], true⟩] [[(2, .pointer (some ⟨g11, 0, none⟩))], [(1, .slice Ap p.length kp)], [(6, .int .i64 z18)], [], [], [], []] (fun iQ => [fun v _ => v = .agg #[.int .i64 Pf, .int .i64 Mf, .slice Af mf.length kf], fun v _ => v = .slice Ap p.length kp, fun v _ => v = .int .i64 z18, fun v _ => v = .pointer (some ((adOf Ap).add z18.toNat)), fun v _ => v = .int .i64 (gi p z18), fun v _ => v = .int .i64 r33, fun v _ => v = .bool (decide (r33 ≠ (0 : Int)))].getD iQ (fun _ _ => True)) Try.mixed (by kernel_rfl) ?_ (by kernel_rfl) ?_ ?_
      · refine Vs_monoT _ ?_
        intro VQ hVQ vQ wQ1 wQ2 hQ1 hQ2
        simp only [List.mem_cons, List.not_mem_nil, or_false] at hVQ
        rcases hVQ with rfl | rfl | rfl | rfl | rfl | rfl | rfl
        · exact hQ1
        · exact hQ1
        · exact hQ1
        · exact hQ1
        · exact hQ1
        · exact hQ1
        · exact hQ1
      · refine ⟨⟨rfl, ⟨rfl, trivial⟩, ?_⟩, ⟨rfl, ⟨rfl, trivial⟩, ?_⟩, ⟨rfl, ⟨rfl, trivial⟩, ?_⟩, ⟨rfl, trivial, ?_⟩, ⟨rfl, trivial, ?_⟩, ⟨rfl, trivial, ?_⟩, ⟨rfl, trivial, ?_⟩, trivial⟩
        · intro w26 hE
          have hE := hE rfl
          have hS := hS.grow hE
          intro RR
          refine WL.loadV (cs := [.int .i64 Pf, .int .i64 Mf, .slice Af mf.length kf]) Try.el24 Try.agg24 rfl rfl (Own.vcells (hS.own (i := 0) rfl)) rfl ?_
          exact WL.done ⟨_, rfl, ext_refl _, rfl, (fun h => absurd h (by decide)), (fun j h => by cases h)⟩
        · intro w27 hE
          intro RR
          refine WL.move rfl rfl ?_
          exact WL.done ⟨_, rfl, rfl, rfl, (fun h => absurd h (by decide)), (fun j h => by cases h)⟩
        · intro w28 hE
          intro RR
          refine WL.move rfl rfl ?_
          exact WL.done ⟨_, rfl, rfl, rfl, (fun h => absurd h (by decide)), (fun j h => by cases h)⟩
        · intro w29 hE
          rintro _ rfl
          rintro _ rfl
          intro RR
          refine SL.index Try.underlying22 Try.el3 (hS.ro hp) rfl rfl o30 rfl ?_
          exact WL.done ⟨_, rfl, rfl, rfl, (fun h => absurd h (by decide)), (fun j h => by cases h)⟩
        · intro w31 hE
          have hE := hE rfl
          have hS := hS.grow hE
          rintro _ rfl
          intro RR
          refine WL.load Try.underlying3 rfl rfl (Rd.gi (hS.ro hp) o30) rfl ?_
          exact WL.done ⟨_, rfl, ext_refl _, rfl, (fun h => absurd h (by decide)), (fun j h => by cases h)⟩
        · intro w32 hE
          have hE := hE rfl
          have hS := hS.grow hE
          rintro _ rfl
          rintro _ rfl
          intro RR
          refine WL.call Try.func56 rfl Try.nm56 rfl rfl (calls_un (ok_rIn (hS.ro hf) o35)) ?_
          rintro _ w34 ⟨_, hGw34, hRww34, hNww34, r33q, rfl, rfl, he⟩
          subst he
          exact WL.done ⟨_, rfl, hGw34, rfl, (fun h => absurd h (by decide)), (fun j h => by cases h)⟩
        · intro w36 hE
          rintro _ rfl
          intro RR
          refine WL.neqD rfl rfl rfl ?_
          exact WL.done ⟨_, rfl, rfl, rfl, (fun h => absurd h (by decide)), (fun j h => by cases h)⟩
      · intro vals w37 hT hVs hAp hCp
        have hS := hS.grow hT
        have hv0 : vals 0 = _ := hVs 0 (by decide)
        have hv1 : vals 1 = _ := hVs 1 (by decide)
        have hv2 : vals 2 = _ := hVs 2 (by decide)
        have hv3 : vals 3 = _ := hVs 3 (by decide)
        have hv4 : vals 4 = _ := hVs 4 (by decide)
        have hv5 : vals 5 = _ := hVs 5 (by decide)
        have hv6 : vals 6 = _ := hVs 6 (by decide)
        rw [show (List.filterMap (fun i => Option.map (fun t => (t, vals i)) (dstAt _ i)) (List.range _)) = [(15, .agg #[.int .i64 Pf, .int .i64 Mf, .slice Af mf.length kf]), (16, .slice Ap p.length kp), (17, .int .i64 z18), (18, .pointer (some ((adOf Ap).add z18.toNat))), (19, .int .i64 (gi p z18)), (20, .int .i64 r33), (21, .bool (decide (r33 ≠ (0 : Int))))] from by
          show [(15, vals 0), (16, vals 1), (17, vals 2), (18, vals 3), (19, vals 4), (20, vals 5), (21, vals 6)] = _
          rw [hv0, hv1, hv2, hv3, hv4, hv5, hv6]]
        refine WA.done (by decide +kernel) ?_
        refine W.cond2 rfl (fun c38 => ?_) (fun c38 => ?_)
        · have hv := hv.1 (of_decide_eq_true c38)
          refine W.region ?_
          refine WL.move rfl rfl ?_
          obtain ⟨o39, hv⟩ := hv
          refine WL.add (r := (z18 + (1 : Int))) rfl rfl (wr o39) rfl ?_
          refine WL.assign rfl rfl ?_
          refine WL.done ?_
          change St _ _ _ _ [.row 24 3 (some ⟨g11, 0, none⟩) 1 1 [.int .i64 Pf, .int .i64 Mf, .slice Af mf.length kf]] at hS
          exact ⟨((z18 + (1 : Int)), (decide (r33 ≠ (0 : Int)))), ⟨rfl, rfl, rfl, rfl, rfl, rfl, rfl, trivial⟩, rfl, hv, hS⟩
        · have hv := hv.2 (of_decide_eq_false c38)
          refine W.skip ?_
          change St _ _ _ _ [.row 24 3 (some ⟨g11, 0, none⟩) 1 1 [.int .i64 Pf, .int .i64 Mf, .slice Af mf.length kf]] at hS
          exact ⟨(z17, (decide (r33 ≠ (0 : Int)))), ⟨rfl, rfl, rfl, rfl, rfl, rfl, rfl, trivial⟩, rfl, hv, hS⟩
    · rintro ⟨z23, b24⟩ w40 ⟨hv, hS⟩
      have hv := hk42 z23 b24 hv
      refine W.region ?_
      refine WL.move rfl rfl ?_
      obtain ⟨o41, hv⟩ := hv
      refine WL.add (r := (z18 + (1 : Int))) rfl rfl (wr o41) rfl ?_
      refine WL.assign rfl rfl ?_
      refine WL.done ?_
      change St _ _ _ _ [.row 24 3 (some ⟨g11, 0, none⟩) 1 1 [.int .i64 Pf, .int .i64 Mf, .slice Af mf.length kf]] at hS
      exact ⟨(z23, (z18 + (1 : Int))), ⟨rfl, rfl, rfl, rfl, rfl, trivial⟩, hv.2, rfl, hv.1, hS⟩
  · have hv := hv.2 (of_decide_eq_false c22)
    refine W.exit ?_
    refine W.seq ?_
    refine W.region ?_
    refine WL.move rfl rfl ?_
    obtain ⟨o43, hv⟩ := hv
    refine SL.make (J := z17) hS Try.underlying22 Try.el3 rfl rfl o43 (made_is _) rfl ?_
    intro A44 w45 hS
    refine WL.assign rfl rfl ?_
    refine WL.done ?_
    refine W.seq ?_
    refine W.seq ?_
    refine W.region ?_
    refine WL.assign rfl rfl ?_
    refine WL.done ?_
    refine W.block ?_
    obtain ⟨I53, μ54, hv, hk73⟩ := hv
    change St _ _ _ _ [.row 3 1 A44 z17.toNat z17.toNat (is (List.replicate z17.toNat (0 : Int))), .row 24 3 (some ⟨g11, 0, none⟩) 1 1 [.int .i64 Pf, .int .i64 Mf, .slice Af mf.length kf]] at hS
    refine W.loop (σ := List Int × Int) (fun q w1 => match q with | (x51, z52) => I53 x51 z52 ∧ St TT w none w1 [.row 3 1 A44 z17.toNat z17.toNat (is x51), .row 24 3 (some ⟨g11, 0, none⟩) 1 1 [.int .i64 Pf, .int .i64 Mf, .slice Af mf.length kf]]) (fun q => match q with | (x51, z52) => [(1, .slice Ap p.length kp), (2, .pointer (some ⟨g11, 0, none⟩)), (4, .slice none 0 0), (5, .int .i64 z17), (7, .slice A44 z17.toNat z17.toNat), (8, .int .i64 z52)]) (fun q => match q with | (x51, z52) => μ54 x51 z52) (List.replicate z17.toNat (0 : Int), (0 : Int)) ⟨hv, hS⟩ ⟨rfl, rfl, rfl, rfl, rfl, rfl, trivial⟩ ?_
    rintro ⟨x51, z52⟩ w55 ⟨hv, hS⟩
    have hv := hk73 x51 z52 hv
    refine W.seq ?_
    refine W.seq ?_
    refine W.region ?_
    refine WL.move rfl rfl ?_
    refine WL.move rfl rfl ?_
    refine WL.lssD rfl rfl rfl ?_
    refine WL.done ?_
    refine W.cond2 rfl (fun c56 => ?_) (fun c56 => ?_)
    · have hv := hv.1 (of_decide_eq_true c56)
      refine W.skip ?_
      refine W.seq ?_
      refine W.block ?_
      obtain ⟨o63, hv⟩ := hv
      obtain ⟨r66, o68, hv⟩ := hv
      have hS0 := hS
      refine W.drawX 8 (fun _ => false) (fun _ => none) [⟨[], [7], true⟩, ⟨[], [8], true⟩, ⟨[], [2], false⟩, ⟨[], [1], true⟩, ⟨[], [8], true⟩, ⟨[3, 4], [], true⟩, ⟨[5], [], false⟩, ⟨[2, 6], [], false⟩] [[(7, .slice A44 z17.toNat z17.toNat)], [(8, .int .i64 z52)], [(2, .pointer (some ⟨g11, 0, none⟩))], [(1, .slice Ap p.length kp)], [(8, .int .i64 z52)], [], [], []] (fun iQ => [fun v _ => v = .slice A44 z17.toNat z17.toNat, fun v _ => v = .int .i64 z52, fun v _ => v = .agg #[.int .i64 Pf, .int .i64 Mf, .slice Af mf.length kf], fun v _ => v = .slice Ap p.length kp, fun v _ => v = .int .i64 z52, fun v _ => v = .pointer (some ((adOf Ap).add z52.toNat)), fun v _ => v = .int .i64 (gi p z52), fun v _ => v = .int .i64 r66].getD iQ (fun _ _ => True)) Try.mixed (by kernel_rfl) ?_ (by kernel_rfl) ?_ ?_
      · refine Vs_monoT _ ?_
        intro VQ hVQ vQ wQ1 wQ2 hQ1 hQ2
        simp only [List.mem_cons, List.not_mem_nil, or_false] at hVQ
        rcases hVQ with rfl | rfl | rfl | rfl | rfl | rfl | rfl | rfl
        · exact hQ1
        · exact hQ1
        · exact hQ1
        · exact hQ1
        · exact hQ1
        · exact hQ1
        · exact hQ1
        · exact hQ1
      · refine ⟨⟨rfl, ⟨rfl, trivial⟩, ?_⟩, ⟨rfl, ⟨rfl, trivial⟩, ?_⟩, ⟨rfl, ⟨rfl, trivial⟩, ?_⟩, ⟨rfl, ⟨rfl, trivial⟩, ?_⟩, ⟨rfl, ⟨rfl, trivial⟩, ?_⟩, ⟨rfl, trivial, ?_⟩, ⟨rfl, trivial, ?_⟩, ⟨rfl, trivial, ?_⟩, trivial⟩
        · intro w57 hE
          intro RR
          refine WL.move rfl rfl ?_
          exact WL.done ⟨_, rfl, rfl, rfl, (fun h => absurd h (by decide)), (fun j h => by cases h)⟩
        · intro w58 hE
          intro RR
          refine WL.move rfl rfl ?_
          exact WL.done ⟨_, rfl, rfl, rfl, (fun h => absurd h (by decide)), (fun j h => by cases h)⟩
        · intro w59 hE
          have hE := hE rfl
          have hS := hS.grow hE
          intro RR
          refine WL.loadV (cs := [.int .i64 Pf, .int .i64 Mf, .slice Af mf.length kf]) Try.el24 Try.agg24 rfl rfl (Own.vcells (hS.own (i := 1) rfl)) rfl ?_
          exact WL.done ⟨_, rfl, ext_refl _, rfl, (fun h => absurd h (by decide)), (fun j h => by cases h)⟩
        · intro w60 hE
          intro RR
          refine WL.move rfl rfl ?_
          exact WL.done ⟨_, rfl, rfl, rfl, (fun h => absurd h (by decide)), (fun j h => by cases h)⟩
        · intro w61 hE
          intro RR
          refine WL.move rfl rfl ?_
          exact WL.done ⟨_, rfl, rfl, rfl, (fun h => absurd h (by decide)), (fun j h => by cases h)⟩
        · intro w62 hE
          rintro _ rfl
          rintro _ rfl
          intro RR
          refine SL.index Try.underlying22 Try.el3 (hS.ro hp) rfl rfl o63 rfl ?_
          exact WL.done ⟨_, rfl, rfl, rfl, (fun h => absurd h (by decide)), (fun j h => by cases h)⟩
        · intro w64 hE
          have hE := hE rfl
          have hS := hS.grow hE
          rintro _ rfl
          intro RR
          refine WL.load Try.underlying3 rfl rfl (Rd.gi (hS.ro hp) o63) rfl ?_
          exact WL.done ⟨_, rfl, ext_refl _, rfl, (fun h => absurd h (by decide)), (fun j h => by cases h)⟩
        · intro w65 hE
          have hE := hE rfl
          have hS := hS.grow hE
          rintro _ rfl
          rintro _ rfl
          intro RR
          refine WL.call Try.func56 rfl Try.nm56 rfl rfl (calls_un (ok_rIn (hS.ro hf) o68)) ?_
          rintro _ w67 ⟨_, hGw67, hRww67, hNww67, r66q, rfl, rfl, he⟩
          subst he
          exact WL.done ⟨_, rfl, hGw67, rfl, (fun h => absurd h (by decide)), (fun j h => by cases h)⟩
      · intro vals w69 hT hVs hAp hCp
        have hS := hS.grow hT
        have hv0 : vals 0 = _ := hVs 0 (by decide)
        have hv1 : vals 1 = _ := hVs 1 (by decide)
        have hv2 : vals 2 = _ := hVs 2 (by decide)
        have hv3 : vals 3 = _ := hVs 3 (by decide)
        have hv4 : vals 4 = _ := hVs 4 (by decide)
        have hv5 : vals 5 = _ := hVs 5 (by decide)
        have hv6 : vals 6 = _ := hVs 6 (by decide)
        have hv7 : vals 7 = _ := hVs 7 (by decide)
        rw [show (List.filterMap (fun i => Option.map (fun t => (t, vals i)) (dstAt _ i)) (List.range _)) = [(31, .slice A44 z17.toNat z17.toNat), (32, .int .i64 z52), (33, .agg #[.int .i64 Pf, .int .i64 Mf, .slice Af mf.length kf]), (34, .slice Ap p.length kp), (35, .int .i64 z52), (36, .pointer (some ((adOf Ap).add z52.toNat))), (37, .int .i64 (gi p z52)), (38, .int .i64 r66)] from by
          show [(31, vals 0), (32, vals 1), (33, vals 2), (34, vals 3), (35, vals 4), (36, vals 5), (37, vals 6), (38, vals 7)] = _
          rw [hv0, hv1, hv2, hv3, hv4, hv5, hv6, hv7]]
        refine WA.step [8] (by decide +kernel) rfl ?_
        intro iQ hQ
        simp only [List.mem_cons, List.not_mem_nil, or_false] at hQ
        obtain rfl := hQ
        refine ⟨_, rfl, ?_⟩
        obtain ⟨o70, hv⟩ := hv
        refine SL.index Try.underlying22 Try.el3 (hS.rd (i := 0) rfl) rfl rfl o70 rfl ?_
        refine WL.done ?_
        refine WA.step [9] (by decide +kernel) rfl ?_
        intro iQ hQ
        simp only [List.mem_cons, List.not_mem_nil, or_false] at hQ
        obtain rfl := hQ
        refine ⟨_, rfl, ?_⟩
        refine SL.store (cs' := is (si x51 z52 r66)) 0 z52.toNat hS rfl Try.el3 rfl rfl rfl (is_lt (hS.rd (i := 0) rfl) o70) (is_set _ _ _) ?_
        intro w71 hS
        refine WL.done ?_
        refine WA.done (by decide +kernel) ?_
        refine W.region ?_
        refine WL.move rfl rfl ?_
        obtain ⟨o72, hv⟩ := hv
        refine WL.add (r := (z52 + (1 : Int))) rfl rfl (wr o72) rfl ?_
        refine WL.assign rfl rfl ?_
        refine WL.done ?_
        change St _ _ _ _ [.row 3 1 A44 z17.toNat z17.toNat (is (si x51 z52 r66)), .row 24 3 (some ⟨g11, 0, none⟩) 1 1 [.int .i64 Pf, .int .i64 Mf, .slice Af mf.length kf]] at hS
        exact ⟨(si x51 z52 r66, (z52 + (1 : Int))), ⟨rfl, rfl, rfl, rfl, rfl, rfl, trivial⟩, hv.2, rfl, hv.1, hS⟩
    · have hv := hv.2 (of_decide_eq_false c56)
      refine W.exit ?_
      refine W.seq ?_
      refine W.region ?_
      refine WL.move rfl rfl ?_
      refine WL.assign rfl rfl ?_
      refine WL.done ?_
      refine W.ret ?_
      have hm0 := (hS.rd (i := 0) rfl).ilen
      have hS := hS.relen (i := 0) rfl hm0.symm
      refine ⟨_, rfl, Fin.nil ?_⟩
      exact ⟨_, hS.ext, (hS.pick [0] rfl).rows, News.of (hS.pick [0] rfl).rows rfl, ⟨x51, A44, z17.toNat, (by first | (rw [hm0]; done) | (rw [hm0]; rfl)), rfl, hv⟩⟩

def V_rdeg (Pf : Int) (Mf : Int) (mf : List Int) (p : List Int) (Q : Int → Prop) : Prop :=
  V_rcanon Pf Mf mf p (fun x14 => (I64 (((x14.length : Nat) : Int) - (1 : Int))) ∧ (Q (((x14.length : Nat) : Int) - (1 : Int))))
def V_rat (Pf : Int) (Mf : Int) (mf : List Int) (p : List Int) (i : Int) (Q : Int → Prop) : Prop :=
  ((i < (0 : Int)) → (Q (0 : Int))) ∧ (¬ (i < (0 : Int)) → (((((p.length : Nat) : Int) ≤ i) → (Q (0 : Int))) ∧ (¬ (((p.length : Nat) : Int) ≤ i) → ((0 ≤ i ∧ i < (p.length : Nat)) ∧ (∃ (r22 : Int), V_rIn Pf Mf mf (gi p i) (fun q => q = r22) ∧ Q r22)))))
def V_rpadd (Pf : Int) (Mf : Int) (mf : List Int) (p : List Int) (t : List Int) (Q : List Int → Prop) : Prop :=
  (0 ≤ (max ((p.length : Nat) : Int) ((t.length : Nat) : Int)) ∧ (max ((p.length : Nat) : Int) ((t.length : Nat) : Int)) * 8 ≤ 281474976710656 ∧ (max ((p.length : Nat) : Int) ((t.length : Nat) : Int)) ≤ 281474976710656) ∧ (∃ (I23 : List Int → Int → Prop) (μ24 : List Int → Int → Nat), I23 (List.replicate (max ((p.length : Nat) : Int) ((t.length : Nat) : Int)).toNat (0 : Int)) (0 : Int) ∧ ∀ (x21 : List Int) (z22 : Int), (I23 x21 z22 → (((z22 < (((max ((p.length : Nat) : Int) ((t.length : Nat) : Int)).toNat : Nat) : Int)) → (∃ (r34 : Int), V_rat Pf Mf mf p z22 (fun q => q = r34) ∧ (∃ (r41 : Int), V_rat Pf Mf mf t z22 (fun q => q = r41) ∧ (∃ (r45 : Int), V_rAdd Pf Mf mf r34 r41 (fun q => q = r45) ∧ ((0 ≤ z22 ∧ z22 < ((max ((p.length : Nat) : Int) ((t.length : Nat) : Int)).toNat : Nat)) ∧ ((I64 (z22 + (1 : Int))) ∧ (I23 (si x21 z22 r45) (z22 + (1 : Int)) ∧ μ24 (si x21 z22 r45) (z22 + (1 : Int)) < μ24 x21 z22))))))) ∧ (¬ (z22 < (((max ((p.length : Nat) : Int) ((t.length : Nat) : Int)).toNat : Nat) : Int)) → (V_rcanon Pf Mf mf x21 (fun x53 => Q x53))))))
def V_rpscale (Pf : Int) (Mf : Int) (mf : List Int) (a : Int) (p : List Int) (Q : List Int → Prop) : Prop :=
  (0 ≤ ((p.length : Nat) : Int) ∧ ((p.length : Nat) : Int) * 8 ≤ 281474976710656 ∧ ((p.length : Nat) : Int) ≤ 281474976710656) ∧ (∃ (I23 : List Int → Int → Prop) (μ24 : List Int → Int → Nat), I23 (List.replicate ((p.length : Nat) : Int).toNat (0 : Int)) (0 : Int) ∧ ∀ (x21 : List Int) (z22 : Int), (I23 x21 z22 → (((z22 < ((p.length : Nat) : Int)) → ((0 ≤ z22 ∧ z22 < (p.length : Nat)) ∧ (∃ (r37 : Int), V_rMul Pf Mf mf a (gi p z22) (fun q => q = r37) ∧ ((0 ≤ z22 ∧ z22 < (((p.length : Nat) : Int).toNat : Nat)) ∧ ((I64 (z22 + (1 : Int))) ∧ (I23 (si x21 z22 r37) (z22 + (1 : Int)) ∧ μ24 (si x21 z22 r37) (z22 + (1 : Int)) < μ24 x21 z22)))))) ∧ (¬ (z22 < ((p.length : Nat) : Int)) → (V_rcanon Pf Mf mf x21 (fun x45 => Q x45))))))
def V_rpsub (Pf : Int) (Mf : Int) (mf : List Int) (p : List Int) (t : List Int) (Q : List Int → Prop) : Prop :=
  ∃ (r18 : Int), V_rNeg Pf Mf mf (1 : Int) (fun q => q = r18) ∧ (∃ (x23 : List Int), V_rpscale Pf Mf mf r18 t (fun q => q = x23) ∧ (∃ (x32 : List Int), V_rpadd Pf Mf mf p x23 (fun q => q = x32) ∧ Q x32))
def V_rpmul (Pf : Int) (Mf : Int) (mf : List Int) (p : List Int) (t : List Int) (Q : List Int → Prop) : Prop :=
  V_rcanon Pf Mf mf p (fun x14 => V_rcanon Pf Mf mf t (fun x19 => (I64 (((x14.length : Nat) : Int) + ((x19.length : Nat) : Int))) ∧ ((0 ≤ (((x14.length : Nat) : Int) + ((x19.length : Nat) : Int)) ∧ (((x14.length : Nat) : Int) + ((x19.length : Nat) : Int)) * 8 ≤ 281474976710656 ∧ (((x14.length : Nat) : Int) + ((x19.length : Nat) : Int)) ≤ 281474976710656) ∧ (∃ (I34 : List Int → Int → Prop) (μ35 : List Int → Int → Nat), I34 (List.replicate (((x14.length : Nat) : Int) + ((x19.length : Nat) : Int)).toNat (0 : Int)) (0 : Int) ∧ ∀ (x32 : List Int) (z33 : Int), (I34 x32 z33 → (((z33 < ((x14.length : Nat) : Int)) → (∃ (I44 : List Int → Int → Prop) (μ45 : List Int → Int → Nat), I44 x32 (0 : Int) ∧ ∀ (x42 : List Int) (z43 : Int), (I44 x42 z43 → (((z43 < ((x19.length : Nat) : Int)) → ((I64 (z33 + z43)) ∧ ((I64 (z33 + z43)) ∧ ((0 ≤ (z33 + z43) ∧ (z33 + z43) < ((((x14.length : Nat) : Int) + ((x19.length : Nat) : Int)).toNat : Nat)) ∧ ((0 ≤ z33 ∧ z33 < (x14.length : Nat)) ∧ ((0 ≤ z43 ∧ z43 < (x19.length : Nat)) ∧ (∃ (r74 : Int), V_rMul Pf Mf mf (gi x14 z33) (gi x19 z43) (fun q => q = r74) ∧ (∃ (r78 : Int), V_rAdd Pf Mf mf (gi x42 (z33 + z43)) r74 (fun q => q = r78) ∧ ((0 ≤ (z33 + z43) ∧ (z33 + z43) < ((((x14.length : Nat) : Int) + ((x19.length : Nat) : Int)).toNat : Nat)) ∧ ((I64 (z43 + (1 : Int))) ∧ (I44 (si x42 (z33 + z43) r78) (z43 + (1 : Int)) ∧ μ45 (si x42 (z33 + z43) r78) (z43 + (1 : Int)) < μ45 x42 z43))))))))))) ∧ (¬ (z43 < ((x19.length : Nat) : Int)) → ((I64 (z33 + (1 : Int))) ∧ (I34 x42 (z33 + (1 : Int)) ∧ μ35 x42 (z33 + (1 : Int)) < μ35 x32 z33))))))) ∧ (¬ (z33 < ((x14.length : Nat) : Int)) → (V_rcanon Pf Mf mf x32 (fun x88 => Q x88)))))))))
def V_rpower (n : Int) (Q : List Int → Prop) : Prop :=
  (I64 (n + (1 : Int))) ∧ ((0 ≤ (n + (1 : Int)) ∧ (n + (1 : Int)) * 8 ≤ 281474976710656 ∧ (n + (1 : Int)) ≤ 281474976710656) ∧ ((0 ≤ n ∧ n < ((n + (1 : Int)).toNat : Nat)) ∧ (Q (si (List.replicate (n + (1 : Int)).toNat (0 : Int)) n (1 : Int)))))
def V_rdivmod (Pf : Int) (Mf : Int) (mf : List Int) (p : List Int) (t : List Int) (Q : List Int × List Int → Prop) : Prop :=
  V_rcanon Pf Mf mf t (fun x14 => V_rcanon Pf Mf mf p (fun x19 => (I64 (((x14.length : Nat) : Int) - (1 : Int))) ∧ ((0 ≤ (((x14.length : Nat) : Int) - (1 : Int)) ∧ (((x14.length : Nat) : Int) - (1 : Int)) < (x14.length : Nat)) ∧ (∃ (r31 : Int), V_rInv Pf Mf mf (gi x14 (((x14.length : Nat) : Int) - (1 : Int))) (fun q => q = r31) ∧ ((I64 (((x19.length : Nat) : Int) - (((x14.length : Nat) : Int) - (1 : Int)))) ∧ ((0 ≤ (max (((x19.length : Nat) : Int) - (((x14.length : Nat) : Int) - (1 : Int))) (0 : Int)) ∧ (max (((x19.length : Nat) : Int) - (((x14.length : Nat) : Int) - (1 : Int))) (0 : Int)) * 8 ≤ 281474976710656 ∧ (max (((x19.length : Nat) : Int) - (((x14.length : Nat) : Int) - (1 : Int))) (0 : Int)) ≤ 281474976710656) ∧ (∃ (I56 : List Int → List Int → Prop) (μ57 : List Int → List Int → Nat), I56 (List.replicate (max (((x19.length : Nat) : Int) - (((x14.length : Nat) : Int) - (1 : Int))) (0 : Int)).toNat (0 : Int)) x19 ∧ ∀ (x51 : List Int) (x52 : List Int), (I56 x51 x52 → ((((((x14.length : Nat) : Int) - (1 : Int)) < ((x52.length : Nat) : Int)) → ((I64 (((x52.length : Nat) : Int) - (1 : Int))) ∧ ((I64 ((((x52.length : Nat) : Int) - (1 : Int)) - (((x14.length : Nat) : Int) - (1 : Int)))) ∧ ((I64 (((x52.length : Nat) : Int) - (1 : Int))) ∧ ((0 ≤ (((x52.length : Nat) : Int) - (1 : Int)) ∧ (((x52.length : Nat) : Int) - (1 : Int)) < (x52.length : Nat)) ∧ (∃ (r73 : Int), V_rMul Pf Mf mf (gi x52 (((x52.length : Nat) : Int) - (1 : Int))) r31 (fun q => q = r73) ∧ ((0 ≤ ((((x52.length : Nat) : Int) - (1 : Int)) - (((x14.length : Nat) : Int) - (1 : Int))) ∧ ((((x52.length : Nat) : Int) - (1 : Int)) - (((x14.length : Nat) : Int) - (1 : Int))) < ((max (((x19.length : Nat) : Int) - (((x14.length : Nat) : Int) - (1 : Int))) (0 : Int)).toNat : Nat)) ∧ (∃ (x87 : List Int), V_rpscale Pf Mf mf r73 x14 (fun q => q = x87) ∧ (∃ (x97 : List Int), V_rpower ((((x52.length : Nat) : Int) - (1 : Int)) - (((x14.length : Nat) : Int) - (1 : Int))) (fun q => q = x97) ∧ (∃ (x106 : List Int), V_rpmul Pf Mf mf x87 x97 (fun q => q = x106) ∧ (∃ (x115 : List Int), V_rpsub Pf Mf mf x52 x106 (fun q => q = x115) ∧ (I56 (si x51 ((((x52.length : Nat) : Int) - (1 : Int)) - (((x14.length : Nat) : Int) - (1 : Int))) r73) x115 ∧ μ57 (si x51 ((((x52.length : Nat) : Int) - (1 : Int)) - (((x14.length : Nat) : Int) - (1 : Int))) r73) x115 < μ57 x51 x52)))))))))))) ∧ (¬ ((((x14.length : Nat) : Int) - (1 : Int)) < ((x52.length : Nat) : Int)) → (V_rcanon Pf Mf mf x51 (fun x127 => Q (x127, x52)))))))))))))
def V_rmonic (Pf : Int) (Mf : Int) (mf : List Int) (p : List Int) (Q : List Int → Prop) : Prop :=
  V_rcanon Pf Mf mf p (fun x14 => ((((x14.length : Nat) : Int) = (0 : Int)) → Q x14) ∧ (¬ (((x14.length : Nat) : Int) = (0 : Int)) → ((I64 (((x14.length : Nat) : Int) - (1 : Int))) ∧ ((0 ≤ (((x14.length : Nat) : Int) - (1 : Int)) ∧ (((x14.length : Nat) : Int) - (1 : Int)) < (x14.length : Nat)) ∧ (∃ (r30 : Int), V_rInv Pf Mf mf (gi x14 (((x14.length : Nat) : Int) - (1 : Int))) (fun q => q = r30) ∧ (∃ (x35 : List Int), V_rpscale Pf Mf mf r30 x14 (fun q => q = x35) ∧ Q x35))))))
def V_rgcd (Pf : Int) (Mf : Int) (mf : List Int) (p : List Int) (t : List Int) (Q : List Int → Prop) : Prop :=
  V_rcanon Pf Mf mf p (fun x14 => V_rcanon Pf Mf mf t (fun x19 => ∃ (I47 : List Int → List Int → Prop) (μ48 : List Int → List Int → Nat), I47 x14 x19 ∧ ∀ (x39 : List Int) (x43 : List Int), (I47 x39 x43 → ((((0 : Int) < ((x43.length : Nat) : Int)) → (V_rdivmod Pf Mf mf x39 x43 (fun q => match q with | (x52, x56) => I47 x43 x56 ∧ μ48 x43 x56 < μ48 x39 x43))) ∧ (¬ ((0 : Int) < ((x43.length : Nat) : Int)) → (V_rmonic Pf Mf mf x39 (fun x61 => Q x61)))))))
def V_reval (Pf : Int) (Mf : Int) (mf : List Int) (p : List Int) (x : Int) (Q : Int → Prop) : Prop :=
  ∃ (I22 : Int → Int → Int → Prop) (μ23 : Int → Int → Int → Nat), I22 (0 : Int) (1 : Int) (0 : Int) ∧ ∀ (z19 : Int) (z20 : Int) (z21 : Int), (I22 z19 z20 z21 → (((z21 < ((p.length : Nat) : Int)) → ((0 ≤ z21 ∧ z21 < (p.length : Nat)) ∧ (∃ (r36 : Int), V_rMul Pf Mf mf (gi p z21) z20 (fun q => q = r36) ∧ (∃ (r40 : Int), V_rAdd Pf Mf mf z19 r36 (fun q => q = r40) ∧ (V_rMul Pf Mf mf z20 x (fun r46 => (I64 (z21 + (1 : Int))) ∧ (I22 r40 r46 (z21 + (1 : Int)) ∧ μ23 r40 r46 (z21 + (1 : Int)) < μ23 z19 z20 z21))))))) ∧ (¬ (z21 < ((p.length : Nat) : Int)) → Q z19)))
def V_rtimes (Pf : Int) (Mf : Int) (mf : List Int) (n : Int) (x : Int) (Q : Int → Prop) : Prop :=
  ∃ (I19 : Int → Int → Prop) (μ20 : Int → Int → Nat), I19 (0 : Int) (0 : Int) ∧ ∀ (z17 : Int) (z18 : Int), (I19 z17 z18 → ((Pf ≠ 0) ∧ (((z18 < (n.tmod Pf)) → (V_rAdd Pf Mf mf z17 x (fun r25 => (I64 (z18 + (1 : Int))) ∧ (I19 r25 (z18 + (1 : Int)) ∧ μ20 r25 (z18 + (1 : Int)) < μ20 z17 z18)))) ∧ (¬ (z18 < (n.tmod Pf)) → Q z17))))
def V_rderiv (Pf : Int) (Mf : Int) (mf : List Int) (p : List Int) (Q : List Int → Prop) : Prop :=
  ((((p.length : Nat) : Int) = (0 : Int)) → (Q ([] : List Int))) ∧ (¬ (((p.length : Nat) : Int) = (0 : Int)) → ((I64 (((p.length : Nat) : Int) - (1 : Int))) ∧ ((0 ≤ (((p.length : Nat) : Int) - (1 : Int)) ∧ (((p.length : Nat) : Int) - (1 : Int)) * 8 ≤ 281474976710656 ∧ (((p.length : Nat) : Int) - (1 : Int)) ≤ 281474976710656) ∧ (∃ (I25 : List Int → Int → Prop) (μ26 : List Int → Int → Nat), I25 (List.replicate (((p.length : Nat) : Int) - (1 : Int)).toNat (0 : Int)) (0 : Int) ∧ ∀ (x23 : List Int) (z24 : Int), (I25 x23 z24 → (((z24 < (((((p.length : Nat) : Int) - (1 : Int)).toNat : Nat) : Int)) → ((I64 (z24 + (1 : Int))) ∧ ((I64 (z24 + (1 : Int))) ∧ ((0 ≤ (z24 + (1 : Int)) ∧ (z24 + (1 : Int)) < (p.length : Nat)) ∧ (∃ (r43 : Int), V_rtimes Pf Mf mf (z24 + (1 : Int)) (gi p (z24 + (1 : Int))) (fun q => q = r43) ∧ ((0 ≤ z24 ∧ z24 < ((((p.length : Nat) : Int) - (1 : Int)).toNat : Nat)) ∧ ((I64 (z24 + (1 : Int))) ∧ (I25 (si x23 z24 r43) (z24 + (1 : Int)) ∧ μ26 (si x23 z24 r43) (z24 + (1 : Int)) < μ26 x23 z24)))))))) ∧ (¬ (z24 < (((((p.length : Nat) : Int) - (1 : Int)).toNat : Nat) : Int)) → (V_rcanon Pf Mf mf x23 (fun x51 => Q x51)))))))))
def V_rcompose (Pf : Int) (Mf : Int) (mf : List Int) (p : List Int) (t : List Int) (Q : List Int → Prop) : Prop :=
  ∃ (I46 : List Int → List Int → Int → Prop) (μ47 : List Int → List Int → Int → Nat), I46 ([] : List Int) ([(1 : Int)] : List Int) (0 : Int) ∧ ∀ (x37 : List Int) (x41 : List Int) (z45 : Int), (I46 x37 x41 z45 → (V_rdeg Pf Mf mf p (fun r50 => ((z45 ≤ r50) → ((0 ≤ z45 ∧ z45 < (p.length : Nat)) ∧ (∃ (x62 : List Int), V_rpscale Pf Mf mf (gi p z45) x41 (fun q => q = x62) ∧ (∃ (x71 : List Int), V_rpadd Pf Mf mf x37 x62 (fun q => q = x71) ∧ (V_rpmul Pf Mf mf x41 t (fun x83 => (I64 (z45 + (1 : Int))) ∧ (I46 x71 x83 (z45 + (1 : Int)) ∧ μ47 x71 x83 (z45 + (1 : Int)) < μ47 x37 x41 z45))))))) ∧ (¬ (z45 ≤ r50) → Q x37))))
def V_rrem (Pf : Int) (Mf : Int) (mf : List Int) (p : List Int) (t : List Int) (Q : List Int → Prop) : Prop :=
  V_rdivmod Pf Mf mf p t (fun q => match q with | (x14, x18) => Q x18)
def V_rpowmod (Pf : Int) (Mf : Int) (mf : List Int) (p : List Int) (n : Int) (t : List Int) (Q : List Int → Prop) : Prop :=
  V_rrem Pf Mf mf ([(1 : Int)] : List Int) t (fun x17 => V_rrem Pf Mf mf p t (fun x22 => ∃ (I53 : List Int → Int → List Int → Prop) (μ54 : List Int → Int → List Int → Nat), I53 x22 n x17 ∧ ∀ (x44 : List Int) (z48 : Int) (x49 : List Int), (I53 x44 z48 x49 → ((((0 : Int) < z48) → (∃ J61 : List Int → Prop, ((((z48.tmod (2 : Int)) = (1 : Int)) → (∃ (x68 : List Int), V_rpmul Pf Mf mf x49 x44 (fun q => q = x68) ∧ (∃ (x78 : List Int), V_rrem Pf Mf mf x68 t (fun q => q = x78) ∧ J61 x78))) ∧ (¬ ((z48.tmod (2 : Int)) = (1 : Int)) → J61 x49)) ∧ ∀ (x57 : List Int), (J61 x57 → (∃ (x95 : List Int), V_rpmul Pf Mf mf x44 x44 (fun q => q = x95) ∧ (∃ (x105 : List Int), V_rrem Pf Mf mf x95 t (fun q => q = x105) ∧ (((2 : Int) ≠ 0 ∧ I64 (z48.tdiv (2 : Int))) ∧ (I53 x105 (z48.tdiv (2 : Int)) x57 ∧ μ54 x105 (z48.tdiv (2 : Int)) x57 < μ54 x44 z48 x49))))))) ∧ (¬ ((0 : Int) < z48) → Q x49)))))
def V_rfromRoots (Pf : Int) (Mf : Int) (mf : List Int) (rs : List Int) (Q : List Int → Prop) : Prop :=
  ∃ (I31 : List Int → Int → Prop) (μ32 : List Int → Int → Nat), I31 ([(1 : Int)] : List Int) (0 : Int) ∧ ∀ (x26 : List Int) (z30 : Int), (I31 x26 z30 → (((z30 < ((rs.length : Nat) : Int)) → ((0 ≤ z30 ∧ z30 < (rs.length : Nat)) ∧ (∃ (r44 : Int), V_rNeg Pf Mf mf (gi rs z30) (fun q => q = r44) ∧ (∃ (x55 : List Int), V_rpmul Pf Mf mf x26 ([r44, (1 : Int)] : List Int) (fun q => q = x55) ∧ ((I64 (z30 + (1 : Int))) ∧ (I31 x55 (z30 + (1 : Int)) ∧ μ32 x55 (z30 + (1 : Int)) < μ32 x26 z30)))))) ∧ (¬ (z30 < ((rs.length : Nat) : Int)) → Q x26)))
def V_rroots (Pf : Int) (Mf : Int) (mf : List Int) (p : List Int) (Q : List Int → Prop) : Prop :=
  ∃ (I28 : List Int → Int → Prop) (μ29 : List Int → Int → Nat), I28 ([] : List Int) (0 : Int) ∧ ∀ (x23 : List Int) (z27 : Int), (I28 x23 z27 → (V_rOrder Pf Mf mf (fun r32 => ((z27 < r32) → (∃ J38 : List Int → Bool → Prop, (V_reval Pf Mf mf p z27 (fun r40 => ((r40 = (0 : Int)) → ((((x23.length : Nat) + (1 : Nat) : Int) * 8 ≤ 140737488355328) ∧ (J38 (x23 ++ ([z27] : List Int)) (decide (r40 = (0 : Int)))))) ∧ (¬ (r40 = (0 : Int)) → (J38 x23 (decide (r40 = (0 : Int))))))) ∧ ∀ (x34 : List Int) (b37 : Bool), (J38 x34 b37 → ((I64 (z27 + (1 : Int))) ∧ (I28 x34 (z27 + (1 : Int)) ∧ μ29 x34 (z27 + (1 : Int)) < μ29 x23 z27))))) ∧ (¬ (z27 < r32) → Q x23))))
end Go.Proofs.Ytmdigamgojfjdaa
set_option linter.unusedSimpArgs false
set_option linter.unusedVariables false
namespace Go.Proofs.Ytmdigamgojfjdaa
open Go.RowKit
def V_lsame (l : List Int) (o : List Int) (Q : Bool → Prop) : Prop :=
  ((((l.length : Nat) : Int) ≠ ((o.length : Nat) : Int)) → Q false) ∧ (¬ (((l.length : Nat) : Int) ≠ ((o.length : Nat) : Int)) → (∃ (I15 : Int → Prop) (μ16 : Int → Nat), I15 (0 : Int) ∧ ∀ (z14 : Int), (I15 z14 → (((z14 < ((l.length : Nat) : Int)) → ((0 ≤ z14 ∧ z14 < (l.length : Nat)) ∧ ((0 ≤ z14 ∧ z14 < (o.length : Nat)) ∧ ((((gi l z14) ≠ (gi o z14)) → Q false) ∧ (¬ ((gi l z14) ≠ (gi o z14)) → ((I64 (z14 + (1 : Int))) ∧ (I15 (z14 + (1 : Int)) ∧ μ16 (z14 + (1 : Int)) < μ16 z14))))))) ∧ (¬ (z14 < ((l.length : Nat) : Int)) → Q true)))))
theorem ok_lsame {w : World} {Q : Bool → Prop} {l : List Int} {o : List Int} {Bl : Nat} {Al : Option Addr} {nl kl : Nat} (hl : Rd Bl w 1 Al nl kl (is l)) {Bo : Nat} {Ao : Option Addr} {no ko : Nat} (ho : Rd Bo w 1 Ao no ko (is o)) (hv : V_lsame l o Q) :
    Calls Try.prog 23 #[.slice Al nl kl, .slice Ao no ko] w fun e w' => ∃ v Qr, e = .returned v ∧ w.grownBy w' none ∧ Rows w.heap.size none w' Qr ∧ News w.heap.size Qr ∧ ∃ (r0 : Bool), v = .bool r0 ∧ Qr = [] ∧ Q r0 := by
  have hnl := hl.ilen
  subst hnl
  have hno := ho.ilen
  subst hno
  refine calls_swap ?_
  refine calls_of_W (vs := [.slice Al l.length kl, .slice Ao o.length ko]) [4] Try.func23 rfl rfl rfl rfl ?_
  have hS := St.start w
  unfold V_lsame at hv
  refine W.seq ?_
  refine W.region ?_
  refine WL.assign rfl rfl ?_
  refine WL.done ?_
  refine W.seq ?_
  refine W.seq ?_
  refine W.region ?_
  refine WL.move rfl rfl ?_
  refine WL.len Try.underlying22 rfl rfl ?_
  refine WL.move rfl rfl ?_
  refine WL.len Try.underlying22 rfl rfl ?_
  refine WL.neqD rfl rfl rfl ?_
  refine WL.done ?_
  refine W.cond2 rfl (fun c11 => ?_) (fun c11 => ?_)
  · have hv := hv.1 (of_decide_eq_true c11)
    refine W.seq ?_
    refine W.region ?_
    refine WL.assign rfl rfl ?_
    refine WL.done ?_
    refine W.ret ?_
    refine ⟨_, rfl, Fin.nil ?_⟩
    exact ⟨_, hS.ext, (hS.pick [] rfl).rows, News.of (hS.pick [] rfl).rows rfl, ⟨false, rfl, rfl, hv⟩⟩
  · have hv := hv.2 (of_decide_eq_false c11)
    refine W.skip ?_
    refine W.seq ?_
    refine W.seq ?_
    refine W.region ?_
    refine WL.move rfl rfl ?_
    refine WL.len Try.underlying22 rfl rfl ?_
    refine WL.move rfl rfl ?_
    refine WL.done ?_
    refine W.block ?_
    obtain ⟨I15, μ16, hv, hk33⟩ := hv
    change St _ _ _ _ [] at hS
    refine W.loop (σ := Int) (fun z14 w1 => I15 z14 ∧ St TT w none w1 []) (fun z14 => [(0, .slice Al l.length kl), (1, .slice Ao o.length ko), (4, .bool false), (12, .int .i64 ((l.length : Nat) : Int)), (13, .int .i64 z14)]) (fun z14 => μ16 z14) (0 : Int) ⟨hv, hS⟩ ⟨rfl, rfl, rfl, rfl, rfl, trivial⟩ ?_
    rintro z14 w17 ⟨hv, hS⟩
    have hv := hk33 z14 hv
    refine W.seq ?_
    refine W.region ?_
    refine WL.lssD rfl rfl rfl ?_
    refine WL.done ?_
    refine W.seq ?_
    refine W.cond2 rfl (fun c18 => ?_) (fun c18 => ?_)
    · have hv := hv.1 (of_decide_eq_true c18)
      refine W.skip ?_
      refine W.seq ?_
      refine W.block ?_
      refine W.seq ?_
      refine W.region ?_
      refine WL.move rfl rfl ?_
      refine WL.assign rfl rfl ?_
      refine WL.done ?_
      refine W.seq ?_
      obtain ⟨o22, hv⟩ := hv
      obtain ⟨o27, hv⟩ := hv
      have hS0 := hS
      refine W.drawX 9 (fun _ => false) (fun _ => none) [⟨[], [0], true⟩, ⟨[], [5], true⟩, ⟨[0, 1], [], true⟩, ⟨[2], [], false⟩, ⟨[], [1], true⟩, ⟨[], [5], true⟩, ⟨[4, 5], [], true⟩, ⟨[6], [], false⟩, ⟨[3, 7], [], true⟩] [[(0, .slice Al l.length kl)], [(5, .int .i64 z14)], [], [], [(1, .slice Ao o.length ko)], [(5, .int .i64 z14)], [], [], []] (fun iQ => [fun v _ => v = .slice Al l.length kl, fun v _ => v = .int .i64 z14, fun v _ => v = .pointer (some ((adOf Al).add z14.toNat)), fun v _ => v = .int .i64 (gi l z14), fun v _ => v = .slice Ao o.length ko, fun v _ => v = .int .i64 z14, fun v _ => v = .pointer (some ((adOf Ao).add z14.toNat)), fun v _ => v = .int .i64 (gi o z14), fun v _ => v = .bool (decide ((gi l z14) ≠ (gi o z14)))].getD iQ (fun _ _ => True)) Try.mixed (by kernel_rfl) ?_ (by kernel_rfl) ?_ ?_
      · refine Vs_monoT _ ?_
        intro VQ hVQ vQ wQ1 wQ2 hQ1 hQ2
        simp only [List.mem_cons, List.not_mem_nil, or_false] at hVQ
        rcases hVQ with rfl | rfl | rfl | rfl | rfl | rfl | rfl | rfl | rfl
        · exact hQ1
        · exact hQ1
        · exact hQ1
        · exact hQ1
        · exact hQ1
        · exact hQ1
        · exact hQ1
        · exact hQ1
        · exact hQ1
      · refine ⟨⟨rfl, ⟨rfl, trivial⟩, ?_⟩, ⟨rfl, ⟨rfl, trivial⟩, ?_⟩, ⟨rfl, trivial, ?_⟩, ⟨rfl, trivial, ?_⟩, ⟨rfl, ⟨rfl, trivial⟩, ?_⟩, ⟨rfl, ⟨rfl, trivial⟩, ?_⟩, ⟨rfl, trivial, ?_⟩, ⟨rfl, trivial, ?_⟩, ⟨rfl, trivial, ?_⟩, trivial⟩
        · intro w19 hE
          intro RR
          refine WL.move rfl rfl ?_
          exact WL.done ⟨_, rfl, rfl, rfl, (fun h => absurd h (by decide)), (fun j h => by cases h)⟩
        · intro w20 hE
          intro RR
          refine WL.move rfl rfl ?_
          exact WL.done ⟨_, rfl, rfl, rfl, (fun h => absurd h (by decide)), (fun j h => by cases h)⟩
        · intro w21 hE
          rintro _ rfl
          rintro _ rfl
          intro RR
          refine SL.index Try.underlying22 Try.el3 (hS.ro hl) rfl rfl o22 rfl ?_
          exact WL.done ⟨_, rfl, rfl, rfl, (fun h => absurd h (by decide)), (fun j h => by cases h)⟩
        · intro w23 hE
          have hE := hE rfl
          have hS := hS.grow hE
          rintro _ rfl
          intro RR
          refine WL.load Try.underlying3 rfl rfl (Rd.gi (hS.ro hl) o22) rfl ?_
          exact WL.done ⟨_, rfl, ext_refl _, rfl, (fun h => absurd h (by decide)), (fun j h => by cases h)⟩
        · intro w24 hE
          intro RR
          refine WL.move rfl rfl ?_
          exact WL.done ⟨_, rfl, rfl, rfl, (fun h => absurd h (by decide)), (fun j h => by cases h)⟩
        · intro w25 hE
          intro RR
          refine WL.move rfl rfl ?_
          exact WL.done ⟨_, rfl, rfl, rfl, (fun h => absurd h (by decide)), (fun j h => by cases h)⟩
        · intro w26 hE
          rintro _ rfl
          rintro _ rfl
          intro RR
          refine SL.index Try.underlying22 Try.el3 (hS.ro ho) rfl rfl o27 rfl ?_
          exact WL.done ⟨_, rfl, rfl, rfl, (fun h => absurd h (by decide)), (fun j h => by cases h)⟩
        · intro w28 hE
          have hE := hE rfl
          have hS := hS.grow hE
          rintro _ rfl
          intro RR
          refine WL.load Try.underlying3 rfl rfl (Rd.gi (hS.ro ho) o27) rfl ?_
          exact WL.done ⟨_, rfl, ext_refl _, rfl, (fun h => absurd h (by decide)), (fun j h => by cases h)⟩
        · intro w29 hE
          rintro _ rfl
          rintro _ rfl
          intro RR
          refine WL.neqD rfl rfl rfl ?_
          exact WL.done ⟨_, rfl, rfl, rfl, (fun h => absurd h (by decide)), (fun j h => by cases h)⟩
      · intro vals w30 hT hVs hAp hCp
        have hS := hS.grow hT
        have hv0 : vals 0 = _ := hVs 0 (by decide)
        have hv1 : vals 1 = _ := hVs 1 (by decide)
        have hv2 : vals 2 = _ := hVs 2 (by decide)
        have hv3 : vals 3 = _ := hVs 3 (by decide)
        have hv4 : vals 4 = _ := hVs 4 (by decide)
        have hv5 : vals 5 = _ := hVs 5 (by decide)
        have hv6 : vals 6 = _ := hVs 6 (by decide)
        have hv7 : vals 7 = _ := hVs 7 (by decide)
        have hv8 : vals 8 = _ := hVs 8 (by decide)
        rw [show (List.filterMap (fun i => Option.map (fun t => (t, vals i)) (dstAt _ i)) (List.range _)) = [(16, .slice Al l.length kl), (17, .int .i64 z14), (18, .pointer (some ((adOf Al).add z14.toNat))), (19, .int .i64 (gi l z14)), (20, .slice Ao o.length ko), (21, .int .i64 z14), (22, .pointer (some ((adOf Ao).add z14.toNat))), (23, .int .i64 (gi o z14)), (24, .bool (decide ((gi l z14) ≠ (gi o z14))))] from by
          show [(16, vals 0), (17, vals 1), (18, vals 2), (19, vals 3), (20, vals 4), (21, vals 5), (22, vals 6), (23, vals 7), (24, vals 8)] = _
          rw [hv0, hv1, hv2, hv3, hv4, hv5, hv6, hv7, hv8]]
        refine WA.done (by decide +kernel) ?_
        refine W.cond2 rfl (fun c31 => ?_) (fun c31 => ?_)
        · have hv := hv.1 (of_decide_eq_true c31)
          refine W.seq ?_
          refine W.region ?_
          refine WL.assign rfl rfl ?_
          refine WL.done ?_
          refine W.ret ?_
          refine ⟨_, rfl, Fin.nil ?_⟩
          exact ⟨_, hS.ext, (hS.pick [] rfl).rows, News.of (hS.pick [] rfl).rows rfl, ⟨false, rfl, rfl, hv⟩⟩
        · have hv := hv.2 (of_decide_eq_false c31)
          refine W.skip ?_
          refine W.region ?_
          obtain ⟨o32, hv⟩ := hv
          refine WL.add (r := (z14 + (1 : Int))) rfl rfl (wr o32) rfl ?_
          refine WL.move rfl rfl ?_
          refine WL.done ?_
          change St _ _ _ _ [] at hS
          exact ⟨(z14 + (1 : Int)), ⟨rfl, rfl, rfl, rfl, rfl, trivial⟩, hv.2, rfl, hv.1, hS⟩
    · have hv := hv.2 (of_decide_eq_false c18)
      refine W.exit ?_
      refine W.seq ?_
      refine W.region ?_
      refine WL.assign rfl rfl ?_
      refine WL.done ?_
      refine W.ret ?_
      refine ⟨_, rfl, Fin.nil ?_⟩
      exact ⟨_, hS.ext, (hS.pick [] rfl).rows, News.of (hS.pick [] rfl).rows rfl, ⟨true, rfl, rfl, hv⟩⟩

def V_made (Pf : Int) (Mf : Int) (mf : List Int) (Q : Option GFv → Prop) : Prop :=
  V_rCheck Pf Mf mf (fun r14 => ((r14 ≠ (0 : Int)) → Q none) ∧ (¬ (r14 ≠ (0 : Int)) → (V_New Pf Mf mf (fun q => match q with | (none, r18) => ((r18 ≠ (0 : Int)) → Q none) ∧ (¬ (r18 ≠ (0 : Int)) → Q none) | (some F19, r18) => ((r18 ≠ (0 : Int)) → Q none) ∧ (¬ (r18 ≠ (0 : Int)) → (Q (some F19)))))))
theorem ok_made {w : World} {Q : Option GFv → Prop} {Pf : Int} {Mf : Int} {mf : List Int} {Bf : Nat} {Af : Option Addr} {nf kf : Nat} (hf : Rd Bf w 1 Af nf kf (is mf)) (hv : V_made Pf Mf mf Q) :
    Calls Try.prog 21 #[.agg #[.int .i64 Pf, .int .i64 Mf, .slice Af nf kf]] w fun e w' => ∃ v Qr, e = .returned v ∧ w.grownBy w' none ∧ Rows w.heap.size none w' Qr ∧ News w.heap.size Qr ∧ ∃ (o : Option GFv), Q o ∧ match o with | none => v = .pointer none ∧ Qr = [] | some F => ∃ (ad : Addr) (lo hi : Nat), v = .pointer (some ad) ∧ Qr = [.ch lo hi (fun wz => GFX lo hi wz ad F)] := by
  have hnf := hf.ilen
  subst hnf
  refine calls_swap ?_
  refine calls_of_W (vs := [.agg #[.int .i64 Pf, .int .i64 Mf, .slice Af mf.length kf]]) [2] Try.func21 rfl rfl rfl rfl ?_
  have hS := St.start w
  unfold V_made at hv
  refine W.seq ?_
  refine W.region ?_
  refine SL.box (z := 3) (cs := [.int .i64 Pf, .int .i64 Mf, .slice Af mf.length kf]) hS rfl rfl rfl rfl ?_
  intro g11 w12 hS
  refine WL.assign rfl rfl ?_
  refine WL.done ?_
  refine W.seq ?_
  refine W.seq ?_
  refine W.region ?_
  refine WL.loadV (cs := [.int .i64 Pf, .int .i64 Mf, .slice Af mf.length kf]) Try.el24 Try.agg24 rfl rfl (Own.vcells (hS.own (i := 0) rfl)) rfl ?_
  refine SL.call hS (ok_rCheck (hS.ro hf) hv) Try.func62 rfl Try.nm62 rfl rfl ?_
  rintro _ _ w13 ⟨r14, rfl, rfl, hv⟩ hGw13 hS
  change St _ _ _ _ [.row 24 3 (some ⟨g11, 0, none⟩) 1 1 [.int .i64 Pf, .int .i64 Mf, .slice Af mf.length kf]] at hS
  refine WL.neqD rfl rfl rfl ?_
  refine WL.done ?_
  refine W.cond2 rfl (fun c15 => ?_) (fun c15 => ?_)
  · have hv := hv.1 (of_decide_eq_true c15)
    refine W.seq ?_
    refine W.region ?_
    refine WL.assign rfl rfl ?_
    refine WL.done ?_
    refine W.ret ?_
    refine ⟨_, rfl, Fin.nil ?_⟩
    exact ⟨_, hS.ext, (hS.pick [] rfl).rows, News.of (hS.pick [] rfl).rows rfl, ⟨none, hv, rfl, rfl⟩⟩
  · have hv := hv.2 (of_decide_eq_false c15)
    refine W.skip ?_
    refine W.seq ?_
    refine W.region ?_
    refine WL.loadV (cs := [.int .i64 Pf, .int .i64 Mf, .slice Af mf.length kf]) Try.el24 Try.agg24 rfl rfl (Own.vcells (hS.own (i := 0) rfl)) rfl ?_
    refine SL.call hS (ok_New (hS.ro hf) hv) Try.func63 rfl Try.nm63 rfl rfl ?_
    rintro _ _ w17 ⟨o, r18, hv, hK⟩ hGw17 hS
    cases o with
    | none =>
      obtain ⟨rfl, rfl⟩ := hK
      change St _ _ _ _ [.row 24 3 (some ⟨g11, 0, none⟩) 1 1 [.int .i64 Pf, .int .i64 Mf, .slice Af mf.length kf]] at hS
      refine WL.move rfl rfl ?_
      refine WL.extract rfl rfl rfl ?_
      refine WL.extract rfl rfl rfl ?_
      refine WL.assign rfl rfl ?_
      refine WL.assign rfl rfl ?_
      refine WL.done ?_
      refine W.seq ?_
      refine W.seq ?_
      refine W.region ?_
      refine WL.move rfl rfl ?_
      refine WL.neqD rfl rfl rfl ?_
      refine WL.done ?_
      refine W.cond2 rfl (fun c25 => ?_) (fun c25 => ?_)
      · have hv := hv.1 (of_decide_eq_true c25)
        refine W.seq ?_
        refine W.region ?_
        refine WL.assign rfl rfl ?_
        refine WL.done ?_
        refine W.ret ?_
        refine ⟨_, rfl, Fin.nil ?_⟩
        exact ⟨_, hS.ext, (hS.pick [] rfl).rows, News.of (hS.pick [] rfl).rows rfl, ⟨none, hv, rfl, rfl⟩⟩
      · have hv := hv.2 (of_decide_eq_false c25)
        refine W.skip ?_
        refine W.seq ?_
        refine W.region ?_
        refine WL.move rfl rfl ?_
        refine WL.assign rfl rfl ?_
        refine WL.done ?_
        refine W.ret ?_
        refine ⟨_, rfl, Fin.nil ?_⟩
        exact ⟨_, hS.ext, (hS.pick [] rfl).rows, News.of (hS.pick [] rfl).rows rfl, ⟨none, hv, rfl, rfl⟩⟩
    | some F19 =>
      obtain ⟨ad20, lo21, hi22, rfl, rfl⟩ := hK
      change St _ _ _ _ [.ch lo21 hi22 (fun wz => GFX lo21 hi22 wz ad20 F19), .row 24 3 (some ⟨g11, 0, none⟩) 1 1 [.int .i64 Pf, .int .i64 Mf, .slice Af mf.length kf]] at hS
      refine WL.move rfl rfl ?_
      refine WL.extract rfl rfl rfl ?_
      refine WL.extract rfl rfl rfl ?_
      refine WL.assign rfl rfl ?_
      refine WL.assign rfl rfl ?_
      refine WL.done ?_
      refine W.seq ?_
      refine W.seq ?_
      refine W.region ?_
      refine WL.move rfl rfl ?_
      refine WL.neqD rfl rfl rfl ?_
      refine WL.done ?_
      refine W.cond2 rfl (fun c26 => ?_) (fun c26 => ?_)
      · have hv := hv.1 (of_decide_eq_true c26)
        refine W.seq ?_
        refine W.region ?_
        refine WL.assign rfl rfl ?_
        refine WL.done ?_
        refine W.ret ?_
        refine ⟨_, rfl, Fin.nil ?_⟩
        exact ⟨_, hS.ext, (hS.pick [] rfl).rows, News.of (hS.pick [] rfl).rows rfl, ⟨none, hv, rfl, rfl⟩⟩
      · have hv := hv.2 (of_decide_eq_false c26)
        refine W.skip ?_
        refine W.seq ?_
        refine W.region ?_
        refine WL.move rfl rfl ?_
        refine WL.assign rfl rfl ?_
        refine WL.done ?_
        refine W.ret ?_
        refine ⟨_, rfl, Fin.nil ?_⟩
        exact ⟨_, hS.ext, (hS.pick [0] rfl).rows, News.of (hS.pick [0] rfl).rows rfl, ⟨some F19, hv, _, _, _, rfl, rfl⟩⟩

def V_short (ls : List (List Int)) (Q : Bool → Prop) : Prop :=
  ∃ (I14 : Int → Prop) (μ15 : Int → Nat), I14 (0 : Int) ∧ ∀ (z13 : Int), (I14 z13 → (((z13 < ((ls.length : Nat) : Int)) → ((0 ≤ z13 ∧ z13 < (ls.length : Nat)) ∧ ((((24 : Int) < (((gl ls z13).length : Nat) : Int)) → Q false) ∧ (¬ ((24 : Int) < (((gl ls z13).length : Nat) : Int)) → ((I64 (z13 + (1 : Int))) ∧ (I14 (z13 + (1 : Int)) ∧ μ15 (z13 + (1 : Int)) < μ15 z13)))))) ∧ (¬ (z13 < ((ls.length : Nat) : Int)) → Q true)))
def V_alive  (Q : Bool → Prop) : Prop :=
  V_made (2 : Int) (1 : Int) ([] : List Int) (fun q => match q with | none => V_made (5 : Int) (1 : Int) ([] : List Int) (fun q => match q with | none => Q false | some F23 => Q false) | some F14 => V_made (5 : Int) (1 : Int) ([] : List Int) (fun q => match q with | none => Q false | some F32 => V_pdivmod F32 ([(1 : Int), (2 : Int), (0 : Int), (1 : Int)] : List Int) ([(3 : Int), (1 : Int)] : List Int) (fun q => match q with | (x45, x49, r53) => V_pmul F14 ([([(1 : Int), (1 : Int), (1 : Int)] : List Int), ([(1 : Int), (1 : Int)] : List Int)] : List (List Int)) (fun x64 => V_lsame x64 ([(1 : Int), (0 : Int), (0 : Int), (1 : Int)] : List Int) (fun r72 => ((r72 = true) → (((r53 = (0 : Int)) → (V_lsame x45 ([(1 : Int), (2 : Int), (1 : Int)] : List Int) (fun r79 => ((r79 = true) → (V_lsame x49 ([(3 : Int)] : List Int) (fun r85 => Q r85))) ∧ (r79 = false → Q false)))) ∧ (¬ (r53 = (0 : Int)) → Q false))) ∧ (r72 = false → Q false))))))
theorem ok_alive {w : World} {Q : Bool → Prop}   (hv : V_alive  Q) :
    Calls Try.prog 20 #[] w fun e w' => ∃ v Qr, e = .returned v ∧ w.grownBy w' none ∧ Rows w.heap.size none w' Qr ∧ News w.heap.size Qr ∧ ∃ (r0 : Bool), v = .bool r0 ∧ Qr = [] ∧ Q r0 := by
  refine calls_swap ?_
  refine calls_of_W (vs := []) [0] Try.func20 rfl rfl rfl rfl ?_
  have hS := St.start w
  unfold V_alive at hv
  refine W.seq ?_
  refine W.region ?_
  refine WL.assign rfl rfl ?_
  refine WL.done ?_
  refine W.seq ?_
  refine W.region ?_
  refine WL.build (cells := #[.int .i64 (2 : Int), .int .i64 (1 : Int), .slice none 0 0]) Try.bld24 rfl rfl rfl ?_
  refine SL.call hS (ok_made (Rd.nilL w) hv) Try.func21 rfl Try.nm21 rfl rfl ?_
  rintro _ _ w12 ⟨o, hv, hK⟩ hGw12 hS
  cases o with
  | none =>
    obtain ⟨rfl, rfl⟩ := hK
    change St _ _ _ _ [] at hS
    refine WL.build (cells := #[.int .i64 (5 : Int), .int .i64 (1 : Int), .slice none 0 0]) Try.bld24 rfl rfl rfl ?_
    refine SL.call hS (ok_made (Rd.nilL w12) hv) Try.func21 rfl Try.nm21 rfl rfl ?_
    rintro _ _ w21 ⟨o, hv, hK⟩ hGw21 hS
    cases o with
    | none =>
      obtain ⟨rfl, rfl⟩ := hK
      change St _ _ _ _ [] at hS
      refine WL.assign rfl rfl ?_
      refine WL.assign rfl rfl ?_
      refine WL.done ?_
      refine W.seq ?_
      refine W.seq ?_
      refine W.region ?_
      refine WL.move rfl rfl ?_
      refine WL.eqlPn Try.underlying26 rfl rfl rfl rfl ?_
      refine WL.move rfl rfl ?_
      refine WL.pass rfl rfl rfl ?_
      refine WL.pass rfl rfl rfl ?_
      refine WL.pick rfl rfl rfl ?_
      refine WL.done ?_
      refine W.condT rfl ?_
      refine W.seq ?_
      refine W.region ?_
      refine WL.assign rfl rfl ?_
      refine WL.done ?_
      refine W.ret ?_
      refine ⟨_, rfl, Fin.nil ?_⟩
      exact ⟨_, hS.ext, (hS.pick [] rfl).rows, News.of (hS.pick [] rfl).rows rfl, ⟨false, rfl, rfl, hv⟩⟩
    | some F23 =>
      obtain ⟨ad24, lo25, hi26, rfl, rfl⟩ := hK
      change St _ _ _ _ [.ch lo25 hi26 (fun wz => GFX lo25 hi26 wz ad24 F23)] at hS
      refine WL.assign rfl rfl ?_
      refine WL.assign rfl rfl ?_
      refine WL.done ?_
      refine W.seq ?_
      refine W.seq ?_
      refine W.region ?_
      refine WL.move rfl rfl ?_
      refine WL.eqlPn Try.underlying26 rfl rfl rfl rfl ?_
      refine WL.move rfl rfl ?_
      refine WL.pass rfl rfl rfl ?_
      refine WL.pass rfl rfl rfl ?_
      refine WL.pick rfl rfl rfl ?_
      refine WL.done ?_
      refine W.condT rfl ?_
      refine W.seq ?_
      refine W.region ?_
      refine WL.assign rfl rfl ?_
      refine WL.done ?_
      refine W.ret ?_
      refine ⟨_, rfl, Fin.nil ?_⟩
      exact ⟨_, hS.ext, (hS.pick [] rfl).rows, News.of (hS.pick [] rfl).rows rfl, ⟨false, rfl, rfl, hv⟩⟩
  | some F14 =>
    obtain ⟨ad15, lo16, hi17, rfl, rfl⟩ := hK
    change St _ _ _ _ [.ch lo16 hi17 (fun wz => GFX lo16 hi17 wz ad15 F14)] at hS
    refine WL.build (cells := #[.int .i64 (5 : Int), .int .i64 (1 : Int), .slice none 0 0]) Try.bld24 rfl rfl rfl ?_
    refine SL.call hS (ok_made (Rd.nilL w12) hv) Try.func21 rfl Try.nm21 rfl rfl ?_
    rintro _ _ w30 ⟨o, hv, hK⟩ hGw30 hS
    cases o with
    | none =>
      obtain ⟨rfl, rfl⟩ := hK
      change St _ _ _ _ [.ch lo16 hi17 (fun wz => GFX lo16 hi17 wz ad15 F14)] at hS
      refine WL.assign rfl rfl ?_
      refine WL.assign rfl rfl ?_
      refine WL.done ?_
      refine W.seq ?_
      refine W.seq ?_
      refine W.region ?_
      refine WL.move rfl rfl ?_
      refine WL.eqlPn Try.underlying26 rfl rfl rfl rfl ?_
      refine WL.move rfl rfl ?_
      refine WL.take rfl ?_
      refine WL.move rfl rfl ?_
      refine WL.take rfl ?_
      refine WL.eqlPn Try.underlying26 rfl rfl rfl rfl ?_
      refine WL.pick rfl rfl rfl ?_
      refine WL.done ?_
      refine W.condT rfl ?_
      refine W.seq ?_
      refine W.region ?_
      refine WL.assign rfl rfl ?_
      refine WL.done ?_
      refine W.ret ?_
      refine ⟨_, rfl, Fin.nil ?_⟩
      exact ⟨_, hS.ext, (hS.pick [] rfl).rows, News.of (hS.pick [] rfl).rows rfl, ⟨false, rfl, rfl, hv⟩⟩
    | some F32 =>
      obtain ⟨ad33, lo34, hi35, rfl, rfl⟩ := hK
      change St _ _ _ _ [.ch lo34 hi35 (fun wz => GFX lo34 hi35 wz ad33 F32), .ch lo16 hi17 (fun wz => GFX lo16 hi17 wz ad15 F14)] at hS
      refine WL.assign rfl rfl ?_
      refine WL.assign rfl rfl ?_
      refine WL.done ?_
      refine W.seq ?_
      refine W.seq ?_
      refine W.region ?_
      refine WL.move rfl rfl ?_
      refine WL.eqlPn Try.underlying26 rfl rfl rfl rfl ?_
      refine WL.move rfl rfl ?_
      refine WL.take rfl ?_
      refine WL.move rfl rfl ?_
      refine WL.take rfl ?_
      refine WL.eqlPn Try.underlying26 rfl rfl rfl rfl ?_
      refine WL.pick rfl rfl rfl ?_
      refine WL.done ?_
      refine W.condF rfl ?_
      refine W.skip ?_
      refine W.seq ?_
      refine W.region ?_
      refine WL.move rfl rfl ?_
      refine SL.lit1 (vs := is ([(1 : Int), (2 : Int), (0 : Int), (1 : Int)] : List Int)) hS Try.underlying22 Try.el3 rfl rfl rfl rfl (is_one _) rfl ?_
      intro A38 w39 hS
      refine SL.lit1 (vs := is ([(3 : Int), (1 : Int)] : List Int)) hS Try.underlying22 Try.el3 rfl rfl rfl rfl (is_one _) rfl ?_
      intro A41 w42 hS
      refine SL.call hS (ok_pdivmod (GFX.gfr (hS.chunk (i := 2) rfl)) (hS.rd (i := 1) rfl) (hS.rd (i := 0) rfl) hv) Try.func37 rfl Try.nm37 rfl rfl ?_
      rintro _ _ w44 ⟨x45, x49, r53, A46, k47, A50, k51, rfl, rfl, hv⟩ hGw44 hS
      change St _ _ _ _ [.row 3 1 A46 x45.length k47 (is x45), .row 3 1 A50 x49.length k51 (is x49), .row 3 1 A41 2 2 (is ([(3 : Int), (1 : Int)] : List Int)), .row 3 1 A38 4 4 (is ([(1 : Int), (2 : Int), (0 : Int), (1 : Int)] : List Int)), .ch lo34 hi35 (fun wz => GFX lo34 hi35 wz ad33 F32), .ch lo16 hi17 (fun wz => GFX lo16 hi17 wz ad15 F14)] at hS
      refine WL.move rfl rfl ?_
      refine WL.extract rfl rfl rfl ?_
      refine WL.extract rfl rfl rfl ?_
      refine WL.extract rfl rfl rfl ?_
      refine WL.assign rfl rfl ?_
      refine WL.assign rfl rfl ?_
      refine WL.assign rfl rfl ?_
      refine WL.done ?_
      refine W.seq ?_
      refine W.region ?_
      refine WL.move rfl rfl ?_
      refine SL.lit1 (vs := is ([(1 : Int), (1 : Int), (1 : Int)] : List Int)) hS Try.underlying22 Try.el3 rfl rfl rfl rfl (is_one _) rfl ?_
      intro A54 w55 hS
      refine SL.lit1 (vs := is ([(1 : Int), (1 : Int)] : List Int)) hS Try.underlying22 Try.el3 rfl rfl rfl rfl (is_one _) rfl ?_
      intro A57 w58 hS
      refine SL.lit1 (vs := [.slice A54 3 3, .slice A57 2 2]) hS Try.underlying37 Try.el22 rfl rfl rfl rfl (by simp [Value.oneCell']) rfl ?_
      intro A60 w61 hS
      refine SL.call hS (ok_pmul (GFX.gfr (hS.chunk (i := 8) rfl)) (fs := ([([(1 : Int), (1 : Int), (1 : Int)] : List Int), ([(1 : Int), (1 : Int)] : List Int)] : List (List Int))) ⟨_, _, (hS.rd (i := 0) rfl), ⟨⟨_, _, _, rfl, (Rd.is_m (hS.rd (i := 2) rfl))⟩, ⟨_, _, _, rfl, (Rd.is_m (hS.rd (i := 1) rfl))⟩, trivial⟩⟩ hv) Try.func32 rfl Try.nm32 rfl rfl ?_
      rintro _ _ w63 ⟨x64, A65, k66, rfl, rfl, hv⟩ hGw63 hS
      change St _ _ _ _ [.row 3 1 A65 x64.length k66 (is x64), .row 22 1 A60 2 2 [.slice A54 3 3, .slice A57 2 2], .row 3 1 A57 2 2 (is ([(1 : Int), (1 : Int)] : List Int)), .row 3 1 A54 3 3 (is ([(1 : Int), (1 : Int), (1 : Int)] : List Int)), .row 3 1 A46 x45.length k47 (is x45), .row 3 1 A50 x49.length k51 (is x49), .row 3 1 A41 2 2 (is ([(3 : Int), (1 : Int)] : List Int)), .row 3 1 A38 4 4 (is ([(1 : Int), (2 : Int), (0 : Int), (1 : Int)] : List Int)), .ch lo34 hi35 (fun wz => GFX lo34 hi35 wz ad33 F32), .ch lo16 hi17 (fun wz => GFX lo16 hi17 wz ad15 F14)] at hS
      refine SL.lit1 (vs := is ([(1 : Int), (0 : Int), (0 : Int), (1 : Int)] : List Int)) hS Try.underlying22 Try.el3 rfl rfl rfl rfl (is_one _) rfl ?_
      intro A68 w69 hS
      refine SL.call hS (ok_lsame (hS.rd (i := 1) rfl) (hS.rd (i := 0) rfl) hv) Try.func23 rfl Try.nm23 rfl rfl ?_
      rintro _ _ w71 ⟨r72, rfl, rfl, hv⟩ hGw71 hS
      change St _ _ _ _ [.row 3 1 A68 4 4 (is ([(1 : Int), (0 : Int), (0 : Int), (1 : Int)] : List Int)), .row 3 1 A65 x64.length k66 (is x64), .row 22 1 A60 2 2 [.slice A54 3 3, .slice A57 2 2], .row 3 1 A57 2 2 (is ([(1 : Int), (1 : Int)] : List Int)), .row 3 1 A54 3 3 (is ([(1 : Int), (1 : Int), (1 : Int)] : List Int)), .row 3 1 A46 x45.length k47 (is x45), .row 3 1 A50 x49.length k51 (is x49), .row 3 1 A41 2 2 (is ([(3 : Int), (1 : Int)] : List Int)), .row 3 1 A38 4 4 (is ([(1 : Int), (2 : Int), (0 : Int), (1 : Int)] : List Int)), .ch lo34 hi35 (fun wz => GFX lo34 hi35 wz ad33 F32), .ch lo16 hi17 (fun wz => GFX lo16 hi17 wz ad15 F14)] at hS
      refine WL.move rfl rfl ?_
      cases g73 : r72
      · have hv := hv.2 g73
        refine WL.pass rfl rfl rfl ?_
        refine WL.pass rfl rfl rfl ?_
        refine WL.pick rfl rfl rfl ?_
        refine WL.move rfl rfl ?_
        refine WL.pass rfl rfl rfl ?_
        refine WL.pass rfl rfl rfl ?_
        refine WL.pass rfl rfl rfl ?_
        refine WL.pick rfl rfl rfl ?_
        refine WL.move rfl rfl ?_
        refine WL.pass rfl rfl rfl ?_
        refine WL.pass rfl rfl rfl ?_
        refine WL.pass rfl rfl rfl ?_
        refine WL.pick rfl rfl rfl ?_
        refine WL.assign rfl rfl ?_
        refine WL.done ?_
        refine W.ret ?_
        refine ⟨_, rfl, Fin.nil ?_⟩
        exact ⟨_, hS.ext, (hS.pick [] rfl).rows, News.of (hS.pick [] rfl).rows rfl, ⟨false, rfl, rfl, hv⟩⟩
      · have hv := hv.1 g73
        refine WL.take rfl ?_
        refine WL.move rfl rfl ?_
        refine WL.take rfl ?_
        refine WL.eqlD rfl rfl rfl ?_
        refine WL.pick rfl rfl rfl ?_
        refine WL.move rfl rfl ?_
        by_cases g74 : r53 = (0 : Int)
        · have hv := hv.1 g74
          rw [decide_eq_true g74]
          refine WL.take rfl ?_
          refine WL.move rfl rfl ?_
          refine WL.take rfl ?_
          refine SL.lit1 (vs := is ([(1 : Int), (2 : Int), (1 : Int)] : List Int)) hS Try.underlying22 Try.el3 rfl rfl rfl rfl (is_one _) rfl ?_
          intro A75 w76 hS
          refine WL.take rfl ?_
          refine SL.call hS (ok_lsame (hS.rd (i := 6) rfl) (hS.rd (i := 0) rfl) hv) Try.func23 rfl Try.nm23 rfl rfl ?_
          rintro _ _ w78 ⟨r79, rfl, rfl, hv⟩ hGw78 hS
          change St _ _ _ _ [.row 3 1 A75 3 3 (is ([(1 : Int), (2 : Int), (1 : Int)] : List Int)), .row 3 1 A68 4 4 (is ([(1 : Int), (0 : Int), (0 : Int), (1 : Int)] : List Int)), .row 3 1 A65 x64.length k66 (is x64), .row 22 1 A60 2 2 [.slice A54 3 3, .slice A57 2 2], .row 3 1 A57 2 2 (is ([(1 : Int), (1 : Int)] : List Int)), .row 3 1 A54 3 3 (is ([(1 : Int), (1 : Int), (1 : Int)] : List Int)), .row 3 1 A46 x45.length k47 (is x45), .row 3 1 A50 x49.length k51 (is x49), .row 3 1 A41 2 2 (is ([(3 : Int), (1 : Int)] : List Int)), .row 3 1 A38 4 4 (is ([(1 : Int), (2 : Int), (0 : Int), (1 : Int)] : List Int)), .ch lo34 hi35 (fun wz => GFX lo34 hi35 wz ad33 F32), .ch lo16 hi17 (fun wz => GFX lo16 hi17 wz ad15 F14)] at hS
          refine WL.pick rfl rfl rfl ?_
          refine WL.move rfl rfl ?_
          cases g80 : r79
          · have hv := hv.2 g80
            refine WL.pass rfl rfl rfl ?_
            refine WL.pass rfl rfl rfl ?_
            refine WL.pass rfl rfl rfl ?_
            refine WL.pick rfl rfl rfl ?_
            refine WL.assign rfl rfl ?_
            refine WL.done ?_
            refine W.ret ?_
            refine ⟨_, rfl, Fin.nil ?_⟩
            exact ⟨_, hS.ext, (hS.pick [] rfl).rows, News.of (hS.pick [] rfl).rows rfl, ⟨false, rfl, rfl, hv⟩⟩
          · have hv := hv.1 g80
            refine WL.take rfl ?_
            refine WL.move rfl rfl ?_
            refine WL.take rfl ?_
            refine SL.lit1 (vs := is ([(3 : Int)] : List Int)) hS Try.underlying22 Try.el3 rfl rfl rfl rfl (is_one _) rfl ?_
            intro A81 w82 hS
            refine WL.take rfl ?_
            refine SL.call hS (ok_lsame (hS.rd (i := 8) rfl) (hS.rd (i := 0) rfl) hv) Try.func23 rfl Try.nm23 rfl rfl ?_
            rintro _ _ w84 ⟨r85, rfl, rfl, hv⟩ hGw84 hS
            change St _ _ _ _ [.row 3 1 A81 1 1 (is ([(3 : Int)] : List Int)), .row 3 1 A75 3 3 (is ([(1 : Int), (2 : Int), (1 : Int)] : List Int)), .row 3 1 A68 4 4 (is ([(1 : Int), (0 : Int), (0 : Int), (1 : Int)] : List Int)), .row 3 1 A65 x64.length k66 (is x64), .row 22 1 A60 2 2 [.slice A54 3 3, .slice A57 2 2], .row 3 1 A57 2 2 (is ([(1 : Int), (1 : Int)] : List Int)), .row 3 1 A54 3 3 (is ([(1 : Int), (1 : Int), (1 : Int)] : List Int)), .row 3 1 A46 x45.length k47 (is x45), .row 3 1 A50 x49.length k51 (is x49), .row 3 1 A41 2 2 (is ([(3 : Int), (1 : Int)] : List Int)), .row 3 1 A38 4 4 (is ([(1 : Int), (2 : Int), (0 : Int), (1 : Int)] : List Int)), .ch lo34 hi35 (fun wz => GFX lo34 hi35 wz ad33 F32), .ch lo16 hi17 (fun wz => GFX lo16 hi17 wz ad15 F14)] at hS
            refine WL.pick rfl rfl rfl ?_
            refine WL.assign rfl rfl ?_
            refine WL.done ?_
            refine W.ret ?_
            refine ⟨_, rfl, Fin.nil ?_⟩
            exact ⟨_, hS.ext, (hS.pick [] rfl).rows, News.of (hS.pick [] rfl).rows rfl, ⟨r85, rfl, rfl, hv⟩⟩
        · have hv := hv.2 g74
          rw [decide_eq_false g74]
          refine WL.pass rfl rfl rfl ?_
          refine WL.pass rfl rfl rfl ?_
          refine WL.pass rfl rfl rfl ?_
          refine WL.pick rfl rfl rfl ?_
          refine WL.move rfl rfl ?_
          refine WL.pass rfl rfl rfl ?_
          refine WL.pass rfl rfl rfl ?_
          refine WL.pass rfl rfl rfl ?_
          refine WL.pick rfl rfl rfl ?_
          refine WL.assign rfl rfl ?_
          refine WL.done ?_
          refine W.ret ?_
          refine ⟨_, rfl, Fin.nil ?_⟩
          exact ⟨_, hS.ext, (hS.pick [] rfl).rows, News.of (hS.pick [] rfl).rows rfl, ⟨false, rfl, rfl, hv⟩⟩
end Go.Proofs.Ytmdigamgojfjdaa
set_option linter.unusedSimpArgs false
set_option linter.unusedVariables false
namespace Go.Proofs.Ytmdigamgojfjdaa
open Go.RowKit
def V_PolyCanon (Pf : Int) (Mf : Int) (mf : List Int) (p : List Int) (Q : Bool → Prop) : Prop :=
  V_alive  (fun r14 => (((!r14) = true) → Q false) ∧ ((!r14) = false → (V_made Pf Mf mf (fun q => match q with | none => Q true | some F19 => (((300 : Int) < ((p.length : Nat) : Int)) → Q true) ∧ (¬ ((300 : Int) < ((p.length : Nat) : Int)) → (V_canon F19 p (fun x27 => V_rcanon Pf Mf mf p (fun x32 => V_lsame x27 x32 (fun r37 => ((r37 = true) → (V_deg F19 p (fun r40 => (I64 (((x27.length : Nat) : Int) - (1 : Int))) ∧ (((r40 = (((x27.length : Nat) : Int) - (1 : Int))) → (V_canon F19 x27 (fun x44 => V_lsame x44 x27 (fun r49 => Q r49)))) ∧ (¬ (r40 = (((x27.length : Nat) : Int) - (1 : Int))) → Q false))))) ∧ (r37 = false → Q false))))))))))
theorem ok_PolyCanon {w : World} {Q : Bool → Prop} {Pf : Int} {Mf : Int} {mf : List Int} {p : List Int} {Bf : Nat} {Af : Option Addr} {nf kf : Nat} (hf : Rd Bf w 1 Af nf kf (is mf)) {Bp : Nat} {Ap : Option Addr} {np kp : Nat} (hp : Rd Bp w 1 Ap np kp (is p)) (hv : V_PolyCanon Pf Mf mf p Q) :
    Calls Try.prog 3 #[.agg #[.int .i64 Pf, .int .i64 Mf, .slice Af nf kf], .slice Ap np kp] w fun e w' => ∃ v Qr, e = .returned v ∧ w.grownBy w' none ∧ Rows w.heap.size none w' Qr ∧ News w.heap.size Qr ∧ ∃ (r0 : Bool), v = .bool r0 ∧ Qr = [] ∧ Q r0 := by
  have hnf := hf.ilen
  subst hnf
  have hnp := hp.ilen
  subst hnp
  refine calls_swap ?_
  refine calls_of_W (vs := [.agg #[.int .i64 Pf, .int .i64 Mf, .slice Af mf.length kf], .slice Ap p.length kp]) [4] Try.func3 rfl rfl rfl rfl ?_
  have hS := St.start w
  unfold V_PolyCanon at hv
  refine W.seq ?_
  refine W.region ?_
  refine SL.box (z := 3) (cs := [.int .i64 Pf, .int .i64 Mf, .slice Af mf.length kf]) hS rfl rfl rfl rfl ?_
  intro g11 w12 hS
  refine WL.assign rfl rfl ?_
  refine WL.done ?_
  refine W.seq ?_
  refine W.seq ?_
  refine W.region ?_
  refine SL.call hS (ok_alive  hv) Try.func20 rfl Try.nm20 rfl rfl ?_
  rintro _ _ w13 ⟨r14, rfl, rfl, hv⟩ hGw13 hS
  change St _ _ _ _ [.row 24 3 (some ⟨g11, 0, none⟩) 1 1 [.int .i64 Pf, .int .i64 Mf, .slice Af mf.length kf]] at hS
  refine WL.not rfl rfl ?_
  refine WL.done ?_
  refine W.cond2 rfl (fun c15 => ?_) (fun c15 => ?_)
  · have hv := hv.1 (c15)
    refine W.seq ?_
    refine W.region ?_
    refine WL.assign rfl rfl ?_
    refine WL.done ?_
    refine W.ret ?_
    refine ⟨_, rfl, Fin.nil ?_⟩
    exact ⟨_, hS.ext, (hS.pick [] rfl).rows, News.of (hS.pick [] rfl).rows rfl, ⟨false, rfl, rfl, hv⟩⟩
  · have hv := hv.2 (c15)
    refine W.skip ?_
    refine W.seq ?_
    refine W.region ?_
    refine WL.loadV (cs := [.int .i64 Pf, .int .i64 Mf, .slice Af mf.length kf]) Try.el24 Try.agg24 rfl rfl (Own.vcells (hS.own (i := 0) rfl)) rfl ?_
    refine SL.call hS (ok_made (hS.ro hf) hv) Try.func21 rfl Try.nm21 rfl rfl ?_
    rintro _ _ w17 ⟨o, hv, hK⟩ hGw17 hS
    cases o with
    | none =>
      obtain ⟨rfl, rfl⟩ := hK
      change St _ _ _ _ [.row 24 3 (some ⟨g11, 0, none⟩) 1 1 [.int .i64 Pf, .int .i64 Mf, .slice Af mf.length kf]] at hS
      refine WL.assign rfl rfl ?_
      refine WL.done ?_
      refine W.seq ?_
      refine W.seq ?_
      refine W.region ?_
      refine WL.move rfl rfl ?_
      refine WL.eqlPn Try.underlying26 rfl rfl rfl rfl ?_
      refine WL.move rfl rfl ?_
      refine WL.pass rfl rfl rfl ?_
      refine WL.pass rfl rfl rfl ?_
      refine WL.pass rfl rfl rfl ?_
      refine WL.pick rfl rfl rfl ?_
      refine WL.done ?_
      refine W.condT rfl ?_
      refine W.seq ?_
      refine W.region ?_
      refine WL.assign rfl rfl ?_
      refine WL.done ?_
      refine W.ret ?_
      refine ⟨_, rfl, Fin.nil ?_⟩
      exact ⟨_, hS.ext, (hS.pick [] rfl).rows, News.of (hS.pick [] rfl).rows rfl, ⟨true, rfl, rfl, hv⟩⟩
    | some F19 =>
      obtain ⟨ad20, lo21, hi22, rfl, rfl⟩ := hK
      change St _ _ _ _ [.ch lo21 hi22 (fun wz => GFX lo21 hi22 wz ad20 F19), .row 24 3 (some ⟨g11, 0, none⟩) 1 1 [.int .i64 Pf, .int .i64 Mf, .slice Af mf.length kf]] at hS
      refine WL.assign rfl rfl ?_
      refine WL.done ?_
      refine W.seq ?_
      refine W.seq ?_
      refine W.region ?_
      refine WL.move rfl rfl ?_
      refine WL.eqlPn Try.underlying26 rfl rfl rfl rfl ?_
      refine WL.move rfl rfl ?_
      refine WL.take rfl ?_
      refine WL.move rfl rfl ?_
      refine WL.take rfl ?_
      refine WL.len Try.underlying22 rfl rfl ?_
      refine WL.take rfl ?_
      refine WL.gtrD rfl rfl rfl ?_
      refine WL.pick rfl rfl rfl ?_
      refine WL.done ?_
      refine W.cond2 rfl (fun c25 => ?_) (fun c25 => ?_)
      · have hv := hv.1 (of_decide_eq_true c25)
        refine W.seq ?_
        refine W.region ?_
        refine WL.assign rfl rfl ?_
        refine WL.done ?_
        refine W.ret ?_
        refine ⟨_, rfl, Fin.nil ?_⟩
        exact ⟨_, hS.ext, (hS.pick [] rfl).rows, News.of (hS.pick [] rfl).rows rfl, ⟨true, rfl, rfl, hv⟩⟩
      · have hv := hv.2 (of_decide_eq_false c25)
        refine W.skip ?_
        refine W.seq ?_
        refine W.region ?_
        refine WL.move rfl rfl ?_
        refine WL.move rfl rfl ?_
        refine SL.call hS (ok_canon (GFX.gfr (hS.chunk (i := 0) rfl)) (hS.ro hp) hv) Try.func22 rfl Try.nm22 rfl rfl ?_
        rintro _ _ w26 ⟨x27, A28, k29, rfl, rfl, hv⟩ hGw26 hS
        change St _ _ _ _ [.row 3 1 A28 x27.length k29 (is x27), .ch lo21 hi22 (fun wz => GFX lo21 hi22 wz ad20 F19), .row 24 3 (some ⟨g11, 0, none⟩) 1 1 [.int .i64 Pf, .int .i64 Mf, .slice Af mf.length kf]] at hS
        refine WL.assign rfl rfl ?_
        refine WL.done ?_
        refine W.seq ?_
        refine W.region ?_
        refine WL.move rfl rfl ?_
        refine WL.loadV (cs := [.int .i64 Pf, .int .i64 Mf, .slice Af mf.length kf]) Try.el24 Try.agg24 rfl rfl (Own.vcells (hS.own (i := 2) rfl)) rfl ?_
        refine WL.move rfl rfl ?_
        refine SL.call hS (ok_rcanon (hS.ro hf) (hS.ro hp) hv) Try.func24 rfl Try.nm24 rfl rfl ?_
        rintro _ _ w31 ⟨x32, A33, k34, rfl, rfl, hv⟩ hGw31 hS
        change St _ _ _ _ [.row 3 1 A33 x32.length k34 (is x32), .row 3 1 A28 x27.length k29 (is x27), .ch lo21 hi22 (fun wz => GFX lo21 hi22 wz ad20 F19), .row 24 3 (some ⟨g11, 0, none⟩) 1 1 [.int .i64 Pf, .int .i64 Mf, .slice Af mf.length kf]] at hS
        refine SL.call hS (ok_lsame (hS.rd (i := 1) rfl) (hS.rd (i := 0) rfl) hv) Try.func23 rfl Try.nm23 rfl rfl ?_
        rintro _ _ w36 ⟨r37, rfl, rfl, hv⟩ hGw36 hS
        change St _ _ _ _ [.row 3 1 A33 x32.length k34 (is x32), .row 3 1 A28 x27.length k29 (is x27), .ch lo21 hi22 (fun wz => GFX lo21 hi22 wz ad20 F19), .row 24 3 (some ⟨g11, 0, none⟩) 1 1 [.int .i64 Pf, .int .i64 Mf, .slice Af mf.length kf]] at hS
        refine WL.move rfl rfl ?_
        cases g38 : r37
        · have hv := hv.2 g38
          refine WL.pass rfl rfl rfl ?_
          refine WL.pass rfl rfl rfl ?_
          refine WL.pass rfl rfl rfl ?_
          refine WL.pass rfl rfl rfl ?_
          refine WL.pass rfl rfl rfl ?_
          refine WL.pass rfl rfl rfl ?_
          refine WL.pass rfl rfl rfl ?_
          refine WL.pick rfl rfl rfl ?_
          refine WL.move rfl rfl ?_
          refine WL.pass rfl rfl rfl ?_
          refine WL.pass rfl rfl rfl ?_
          refine WL.pass rfl rfl rfl ?_
          refine WL.pass rfl rfl rfl ?_
          refine WL.pass rfl rfl rfl ?_
          refine WL.pick rfl rfl rfl ?_
          refine WL.assign rfl rfl ?_
          refine WL.done ?_
          refine W.ret ?_
          refine ⟨_, rfl, Fin.nil ?_⟩
          exact ⟨_, hS.ext, (hS.pick [] rfl).rows, News.of (hS.pick [] rfl).rows rfl, ⟨false, rfl, rfl, hv⟩⟩
        · have hv := hv.1 g38
          refine WL.take rfl ?_
          refine WL.move rfl rfl ?_
          refine WL.take rfl ?_
          refine WL.move rfl rfl ?_
          refine WL.take rfl ?_
          refine SL.call hS (ok_deg (GFX.gfr (hS.chunk (i := 2) rfl)) (hS.ro hp) hv) Try.func25 rfl Try.nm25 rfl rfl ?_
          rintro _ _ w39 ⟨r40, rfl, rfl, hv⟩ hGw39 hS
          change St _ _ _ _ [.row 3 1 A33 x32.length k34 (is x32), .row 3 1 A28 x27.length k29 (is x27), .ch lo21 hi22 (fun wz => GFX lo21 hi22 wz ad20 F19), .row 24 3 (some ⟨g11, 0, none⟩) 1 1 [.int .i64 Pf, .int .i64 Mf, .slice Af mf.length kf]] at hS
          refine WL.take rfl ?_
          refine WL.move rfl rfl ?_
          refine WL.take rfl ?_
          refine WL.len Try.underlying22 rfl rfl ?_
          refine WL.take rfl ?_
          obtain ⟨o41, hv⟩ := hv
          refine WL.sub (r := (((x27.length : Nat) : Int) - (1 : Int))) rfl rfl (wr o41) rfl ?_
          refine WL.take rfl ?_
          refine WL.eqlD rfl rfl rfl ?_
          refine WL.pick rfl rfl rfl ?_
          refine WL.move rfl rfl ?_
          by_cases g42 : r40 = (((x27.length : Nat) : Int) - (1 : Int))
          · have hv := hv.1 g42
            rw [decide_eq_true g42]
            refine WL.take rfl ?_
            refine WL.move rfl rfl ?_
            refine WL.take rfl ?_
            refine WL.move rfl rfl ?_
            refine WL.take rfl ?_
            refine SL.call hS (ok_canon (GFX.gfr (hS.chunk (i := 2) rfl)) (hS.rd (i := 1) rfl) hv) Try.func22 rfl Try.nm22 rfl rfl ?_
            rintro _ _ w43 ⟨x44, A45, k46, rfl, rfl, hv⟩ hGw43 hS
            change St _ _ _ _ [.row 3 1 A45 x44.length k46 (is x44), .row 3 1 A33 x32.length k34 (is x32), .row 3 1 A28 x27.length k29 (is x27), .ch lo21 hi22 (fun wz => GFX lo21 hi22 wz ad20 F19), .row 24 3 (some ⟨g11, 0, none⟩) 1 1 [.int .i64 Pf, .int .i64 Mf, .slice Af mf.length kf]] at hS
            refine WL.take rfl ?_
            refine WL.move rfl rfl ?_
            refine WL.take rfl ?_
            refine SL.call hS (ok_lsame (hS.rd (i := 0) rfl) (hS.rd (i := 2) rfl) hv) Try.func23 rfl Try.nm23 rfl rfl ?_
            rintro _ _ w48 ⟨r49, rfl, rfl, hv⟩ hGw48 hS
            change St _ _ _ _ [.row 3 1 A45 x44.length k46 (is x44), .row 3 1 A33 x32.length k34 (is x32), .row 3 1 A28 x27.length k29 (is x27), .ch lo21 hi22 (fun wz => GFX lo21 hi22 wz ad20 F19), .row 24 3 (some ⟨g11, 0, none⟩) 1 1 [.int .i64 Pf, .int .i64 Mf, .slice Af mf.length kf]] at hS
            refine WL.pick rfl rfl rfl ?_
            refine WL.assign rfl rfl ?_
            refine WL.done ?_
            refine W.ret ?_
            refine ⟨_, rfl, Fin.nil ?_⟩
            exact ⟨_, hS.ext, (hS.pick [] rfl).rows, News.of (hS.pick [] rfl).rows rfl, ⟨r49, rfl, rfl, hv⟩⟩
          · have hv := hv.2 g42
            rw [decide_eq_false g42]
            refine WL.pass rfl rfl rfl ?_
            refine WL.pass rfl rfl rfl ?_
            refine WL.pass rfl rfl rfl ?_
            refine WL.pass rfl rfl rfl ?_
            refine WL.pass rfl rfl rfl ?_
            refine WL.pick rfl rfl rfl ?_
            refine WL.assign rfl rfl ?_
            refine WL.done ?_
            refine W.ret ?_
            refine ⟨_, rfl, Fin.nil ?_⟩
            exact ⟨_, hS.ext, (hS.pick [] rfl).rows, News.of (hS.pick [] rfl).rows rfl, ⟨false, rfl, rfl, hv⟩⟩

def V_PolyAdds (Pf : Int) (Mf : Int) (mf : List Int) (p : List Int) (t : List Int) (Q : Bool → Prop) : Prop :=
  V_alive  (fun r14 => (((!r14) = true) → Q false) ∧ ((!r14) = false → (V_made Pf Mf mf (fun q => match q with | none => Q true | some F19 => V_short ([p, t] : List (List Int)) (fun r29 => (((!r29) = true) → Q true) ∧ ((!r29) = false → (V_padd F19 p t (fun x32 => ∃ (x41 : List Int), V_rpadd Pf Mf mf p t (fun q => q = x41) ∧ ((V_lsame x32 x41 (fun q => q = true)) ∧ (∃ (x58 : List Int), V_psub F19 p t (fun q => q = x58) ∧ (∃ (x70 : List Int), V_rpsub Pf Mf mf p t (fun q => q = x70) ∧ ((V_lsame x58 x70 (fun q => q = true)) ∧ (∃ (x88 : List Int), V_psub F19 x32 t (fun q => q = x88) ∧ (∃ (x99 : List Int), V_rcanon Pf Mf mf p (fun q => q = x99) ∧ (∃ (r108 : Bool), V_lsame x88 x99 (fun q => q = r108) ∧ Q r108)))))))))))))))
def V_PolyMultiplies (Pf : Int) (Mf : Int) (mf : List Int) (a : Int) (fs : List (List Int)) (Q : Bool → Prop) : Prop :=
  V_alive  (fun r14 => (((!r14) = true) → Q false) ∧ ((!r14) = false → (V_made Pf Mf mf (fun q => match q with | none => Q true | some F19 => (((4 : Int) < ((fs.length : Nat) : Int)) → Q true) ∧ (¬ ((4 : Int) < ((fs.length : Nat) : Int)) → (V_short fs (fun r27 => (((!r27) = true) → Q true) ∧ ((!r27) = false → (∃ (I47 : List Int → Int → Prop) (μ48 : List Int → Int → Nat), I47 ([(1 : Int)] : List Int) (0 : Int) ∧ ∀ (x42 : List Int) (z46 : Int), (I47 x42 z46 → (((z46 < ((fs.length : Nat) : Int)) → ((0 ≤ z46 ∧ z46 < (fs.length : Nat)) ∧ (V_rpmul Pf Mf mf x42 (gl fs z46) (fun x58 => (I64 (z46 + (1 : Int))) ∧ (I47 x58 (z46 + (1 : Int)) ∧ μ48 x58 (z46 + (1 : Int)) < μ48 x42 z46))))) ∧ (¬ (z46 < ((fs.length : Nat) : Int)) → (V_pmul F19 fs (fun x64 => (V_lsame x64 x42 (fun q => q = true)) ∧ (∃ (x79 : List Int), V_pscale F19 a x64 (fun q => q = x79) ∧ (∃ (x91 : List Int), V_rpscale Pf Mf mf a x42 (fun q => q = x91) ∧ (∃ (r100 : Bool), V_lsame x79 x91 (fun q => q = r100) ∧ Q r100)))))))))))))))))
def V_PolyShifts (Pf : Int) (Mf : Int) (mf : List Int) (p : List Int) (n : Int) (Q : Bool → Prop) : Prop :=
  V_alive  (fun r14 => (((!r14) = true) → Q false) ∧ ((!r14) = false → (V_made Pf Mf mf (fun q => match q with | none => Q true | some F19 => V_short ([p] : List (List Int)) (fun r29 => (((!r29) = true) → Q true) ∧ ((!r29) = false → (V_pshift F19 p n (fun q => match q with | (x32, r36) => ((n < (0 : Int)) → (((r36 = (6 : Int)) → (Q (decide (((x32.length : Nat) : Int) = (0 : Int))))) ∧ (¬ (r36 = (6 : Int)) → Q false))) ∧ (¬ (n < (0 : Int)) → ((((4096 : Int) < n) → (((r36 = (6 : Int)) → (Q (decide (((x32.length : Nat) : Int) = (0 : Int))))) ∧ (¬ (r36 = (6 : Int)) → Q false))) ∧ (¬ ((4096 : Int) < n) → (V_rcanon Pf Mf mf p (fun x42 => ∃ J50 : List Int → Prop, ((((0 : Int) < ((x42.length : Nat) : Int)) → ((0 ≤ n ∧ n * 8 ≤ 281474976710656 ∧ n ≤ 281474976710656) ∧ ((((n.toNat : Nat) + (x42.length : Nat) : Int) * 8 ≤ 140737488355328) ∧ (J50 ((List.replicate n.toNat (0 : Int)) ++ x42))))) ∧ (¬ ((0 : Int) < ((x42.length : Nat) : Int)) → J50 x42)) ∧ ∀ (x46 : List Int), (J50 x46 → (((r36 = (0 : Int)) → (V_lsame x32 x46 (fun r63 => Q r63))) ∧ (¬ (r36 = (0 : Int)) → Q false))))))))))))))))
def V_PolyMonic (Pf : Int) (Mf : Int) (mf : List Int) (p : List Int) (Q : Bool → Prop) : Prop :=
  V_alive  (fun r14 => (((!r14) = true) → Q false) ∧ ((!r14) = false → (V_made Pf Mf mf (fun q => match q with | none => Q true | some F19 => V_short ([p] : List (List Int)) (fun r29 => (((!r29) = true) → Q true) ∧ ((!r29) = false → (V_pmonic F19 p (fun q => match q with | (x32, r36) => V_rcanon Pf Mf mf p (fun x38 => ((((x38.length : Nat) : Int) = (0 : Int)) → (((r36 = (7 : Int)) → (Q (decide (((x32.length : Nat) : Int) = (0 : Int))))) ∧ (¬ (r36 = (7 : Int)) → Q false))) ∧ (¬ (((x38.length : Nat) : Int) = (0 : Int)) → (((r36 = (0 : Int)) → (((((x32.length : Nat) : Int) = ((x38.length : Nat) : Int)) → ((((gi x32 (((x32.length : Nat) : Int) - (1 : Int))) = (1 : Int)) → ((I64 (((x32.length : Nat) : Int) - (1 : Int))) ∧ ((0 ≤ (((x32.length : Nat) : Int) - (1 : Int)) ∧ (((x32.length : Nat) : Int) - (1 : Int)) < (x32.length : Nat)) ∧ ((I64 (((x38.length : Nat) : Int) - (1 : Int))) ∧ ((0 ≤ (((x38.length : Nat) : Int) - (1 : Int)) ∧ (((x38.length : Nat) : Int) - (1 : Int)) < (x38.length : Nat)) ∧ (∃ (x79 : List Int), V_rpscale Pf Mf mf (gi x38 (((x38.length : Nat) : Int) - (1 : Int))) x32 (fun q => q = x79) ∧ (∃ (r89 : Bool), V_lsame x79 x38 (fun q => q = r89) ∧ Q r89))))))) ∧ (¬ ((gi x32 (((x32.length : Nat) : Int) - (1 : Int))) = (1 : Int)) → ((I64 (((x32.length : Nat) : Int) - (1 : Int))) ∧ ((0 ≤ (((x32.length : Nat) : Int) - (1 : Int)) ∧ (((x32.length : Nat) : Int) - (1 : Int)) < (x32.length : Nat)) ∧ Q false))))) ∧ (¬ (((x32.length : Nat) : Int) = ((x38.length : Nat) : Int)) → Q false))) ∧ (¬ (r36 = (0 : Int)) → Q false))))))))))))
def V_PolyDivides (Pf : Int) (Mf : Int) (mf : List Int) (p : List Int) (t : List Int) (Q : Bool → Prop) : Prop :=
  V_alive  (fun r14 => (((!r14) = true) → Q false) ∧ ((!r14) = false → (V_made Pf Mf mf (fun q => match q with | none => Q true | some F19 => V_short ([p, t] : List (List Int)) (fun r29 => (((!r29) = true) → Q true) ∧ ((!r29) = false → (V_pdivmod F19 p t (fun q => match q with | (x32, x36, r40) => V_rdeg Pf Mf mf t (fun r42 => ((r42 < (0 : Int)) → (((r40 = (7 : Int)) → (((((x32.length : Nat) : Int) = (0 : Int)) → (Q (decide (((x36.length : Nat) : Int) = (0 : Int))))) ∧ (¬ (((x32.length : Nat) : Int) = (0 : Int)) → Q false))) ∧ (¬ (r40 = (7 : Int)) → Q false))) ∧ (¬ (r42 < (0 : Int)) → (∃ (x51 : List Int), V_rpmul Pf Mf mf x32 t (fun q => q = x51) ∧ (∃ (x61 : List Int), V_rpadd Pf Mf mf x51 x36 (fun q => q = x61) ∧ (((r40 = (0 : Int)) → (((((x36.length : Nat) : Int) ≤ r42) → (V_rcanon Pf Mf mf p (fun x75 => V_lsame x61 x75 (fun r80 => ((r80 = true) → (V_rcanon Pf Mf mf x32 (fun x83 => V_lsame x32 x83 (fun r88 => ((r88 = true) → (V_rcanon Pf Mf mf x36 (fun x91 => V_lsame x36 x91 (fun r96 => Q r96)))) ∧ (r88 = false → Q false))))) ∧ (r80 = false → Q false))))) ∧ (¬ (((x36.length : Nat) : Int) ≤ r42) → Q false))) ∧ (¬ (r40 = (0 : Int)) → Q false))))))))))))))
def V_PolyGcds (Pf : Int) (Mf : Int) (mf : List Int) (vv0 : List Int) (vv1 : List Int) (vv2 : List Int) (Q : Bool → Prop) : Prop :=
  V_alive  (fun r16 => (((!r16) = true) → Q false) ∧ ((!r16) = false → (V_made Pf Mf mf (fun q => match q with | none => Q true | some F21 => V_short ([vv0, vv1, vv2] : List (List Int)) (fun r51 => (((!r51) = true) → Q true) ∧ ((!r51) = false → (V_pgcd F21 vv0 vv1 (fun x54 => V_rdeg Pf Mf mf vv0 (fun r59 => ((r59 < (0 : Int)) → (V_rdeg Pf Mf mf vv1 (fun r62 => ((r62 < (0 : Int)) → (Q (decide (((x54.length : Nat) : Int) = (0 : Int))))) ∧ (¬ (r62 < (0 : Int)) → (((((x54.length : Nat) : Int) = (0 : Int)) → Q false) ∧ (¬ (((x54.length : Nat) : Int) = (0 : Int)) → (V_rmonic Pf Mf mf x54 (fun x66 => V_lsame x54 x66 (fun r71 => (((!r71) = true) → Q false) ∧ ((!r71) = false → (V_rrem Pf Mf mf vv0 x54 (fun x74 => (((0 : Int) < ((x74.length : Nat) : Int)) → Q false) ∧ (¬ ((0 : Int) < ((x74.length : Nat) : Int)) → (V_rrem Pf Mf mf vv1 x54 (fun x80 => (((0 : Int) < ((x80.length : Nat) : Int)) → Q false) ∧ (¬ ((0 : Int) < ((x80.length : Nat) : Int)) → (V_rdeg Pf Mf mf vv2 (fun r86 => ((r86 < (0 : Int)) → Q true) ∧ (¬ (r86 < (0 : Int)) → (V_rrem Pf Mf mf vv0 vv2 (fun x89 => (((0 : Int) < ((x89.length : Nat) : Int)) → Q true) ∧ (¬ ((0 : Int) < ((x89.length : Nat) : Int)) → (V_rrem Pf Mf mf vv1 vv2 (fun x95 => (((0 : Int) < ((x95.length : Nat) : Int)) → Q true) ∧ (¬ ((0 : Int) < ((x95.length : Nat) : Int)) → (V_rrem Pf Mf mf x54 vv2 (fun x101 => Q (decide (((x101.length : Nat) : Int) = (0 : Int)))))))))))))))))))))))))))))) ∧ (¬ (r59 < (0 : Int)) → (((((x54.length : Nat) : Int) = (0 : Int)) → Q false) ∧ (¬ (((x54.length : Nat) : Int) = (0 : Int)) → (V_rmonic Pf Mf mf x54 (fun x107 => V_lsame x54 x107 (fun r112 => (((!r112) = true) → Q false) ∧ ((!r112) = false → (V_rrem Pf Mf mf vv0 x54 (fun x115 => (((0 : Int) < ((x115.length : Nat) : Int)) → Q false) ∧ (¬ ((0 : Int) < ((x115.length : Nat) : Int)) → (V_rrem Pf Mf mf vv1 x54 (fun x121 => (((0 : Int) < ((x121.length : Nat) : Int)) → Q false) ∧ (¬ ((0 : Int) < ((x121.length : Nat) : Int)) → (V_rdeg Pf Mf mf vv2 (fun r127 => ((r127 < (0 : Int)) → Q true) ∧ (¬ (r127 < (0 : Int)) → (V_rrem Pf Mf mf vv0 vv2 (fun x130 => (((0 : Int) < ((x130.length : Nat) : Int)) → Q true) ∧ (¬ ((0 : Int) < ((x130.length : Nat) : Int)) → (V_rrem Pf Mf mf vv1 vv2 (fun x136 => (((0 : Int) < ((x136.length : Nat) : Int)) → Q true) ∧ (¬ ((0 : Int) < ((x136.length : Nat) : Int)) → (V_rrem Pf Mf mf x54 vv2 (fun x142 => Q (decide (((x142.length : Nat) : Int) = (0 : Int))))))))))))))))))))))))))))))))))))
def V_PolyBezouts (Pf : Int) (Mf : Int) (mf : List Int) (p : List Int) (t : List Int) (Q : Bool → Prop) : Prop :=
  V_alive  (fun r14 => (((!r14) = true) → Q false) ∧ ((!r14) = false → (V_made Pf Mf mf (fun q => match q with | none => Q true | some F19 => V_short ([p, t] : List (List Int)) (fun r29 => (((!r29) = true) → Q true) ∧ ((!r29) = false → (V_bezout F19 p t (fun q => match q with | (x32, x36, x40) => V_rgcd Pf Mf mf p t (fun x45 => ∃ (x54 : List Int), V_rpmul Pf Mf mf x36 p (fun q => q = x54) ∧ (∃ (x66 : List Int), V_rpmul Pf Mf mf x40 t (fun q => q = x66) ∧ (∃ (x75 : List Int), V_rpadd Pf Mf mf x54 x66 (fun q => q = x75) ∧ (V_lsame x32 x45 (fun r87 => (((!r87) = true) → Q false) ∧ ((!r87) = false → (V_lsame x75 x45 (fun r90 => (((!r90) = true) → Q false) ∧ ((!r90) = false → (V_rcanon Pf Mf mf x36 (fun x93 => V_lsame x36 x93 (fun r98 => (((!r98) = true) → Q false) ∧ ((!r98) = false → (V_rcanon Pf Mf mf x40 (fun x101 => V_lsame x40 x101 (fun r106 => (((!r106) = true) → Q false) ∧ ((!r106) = false → (∃ (r111 : Int), V_rdeg Pf Mf mf p (fun q => q = r111) ∧ (∃ (r117 : Int), V_rdeg Pf Mf mf t (fun q => q = r117) ∧ (∃ J123 : Prop, (((r111 < (0 : Int)) → (((r117 < (0 : Int)) → (((((x36.length : Nat) : Int) = (0 : Int)) → (Q (decide (((x40.length : Nat) : Int) = (0 : Int))))) ∧ (¬ (((x36.length : Nat) : Int) = (0 : Int)) → Q false))) ∧ (¬ (r117 < (0 : Int)) → (((r117 < (0 : Int)) → (((((x36.length : Nat) : Int) = (1 : Int)) → (Q (decide (((x40.length : Nat) : Int) = (0 : Int))))) ∧ (¬ (((x36.length : Nat) : Int) = (1 : Int)) → Q false))) ∧ (¬ (r117 < (0 : Int)) → J123))))) ∧ (¬ (r111 < (0 : Int)) → (((r117 < (0 : Int)) → (((((x36.length : Nat) : Int) = (1 : Int)) → (Q (decide (((x40.length : Nat) : Int) = (0 : Int))))) ∧ (¬ (((x36.length : Nat) : Int) = (1 : Int)) → Q false))) ∧ (¬ (r117 < (0 : Int)) → J123)))) ∧ (J123 → ((I64 (((x36.length : Nat) : Int) - (1 : Int))) ∧ ((I64 (((x45.length : Nat) : Int) - (1 : Int))) ∧ ((I64 (r117 - (((x45.length : Nat) : Int) - (1 : Int)))) ∧ (Q (decide ((((x36.length : Nat) : Int) - (1 : Int)) < (max (r117 - (((x45.length : Nat) : Int) - (1 : Int))) (0 : Int)))))))))))))))))))))))))))))))))))))
def V_PolyValues (Pf : Int) (Mf : Int) (mf : List Int) (vv0 : List Int) (vv1 : List Int) (x : Int) (Q : Bool → Prop) : Prop :=
  V_alive  (fun r16 => (((!r16) = true) → Q false) ∧ ((!r16) = false → (V_made Pf Mf mf (fun q => match q with | none => Q true | some F21 => V_short ([vv0, vv1] : List (List Int)) (fun r45 => (((!r45) = true) → Q true) ∧ ((!r45) = false → (V_eval F21 vv0 x (fun r48 => V_eval F21 vv1 x (fun r50 => V_reval Pf Mf mf vv0 x (fun r52 => ((r48 ≠ r52) → Q false) ∧ (¬ (r48 ≠ r52) → (V_reval Pf Mf mf vv1 x (fun r55 => ((r50 ≠ r55) → Q false) ∧ (¬ (r50 ≠ r55) → (∃ (x62 : List Int), V_padd F21 vv0 vv1 (fun q => q = x62) ∧ (∃ (r72 : Int), V_eval F21 x62 x (fun q => q = r72) ∧ (∃ (r79 : Int), V_rAdd Pf Mf mf r48 r50 (fun q => q = r79) ∧ ((r72 = r79) ∧ (∃ (x97 : List Int), V_pmul F21 ([vv0, vv1] : List (List Int)) (fun q => q = x97) ∧ (∃ (r107 : Int), V_eval F21 x97 x (fun q => q = r107) ∧ (∃ (r114 : Int), V_rMul Pf Mf mf r48 r50 (fun q => q = r114) ∧ (Q (decide (r107 = r114))))))))))))))))))))))))
def V_PolyRemainders (Pf : Int) (Mf : Int) (mf : List Int) (p : List Int) (a : Int) (Q : Bool → Prop) : Prop :=
  V_alive  (fun r14 => (((!r14) = true) → Q false) ∧ ((!r14) = false → (V_made Pf Mf mf (fun q => match q with | none => Q true | some F19 => V_short ([p] : List (List Int)) (fun r29 => (((!r29) = true) → Q true) ∧ ((!r29) = false → (V_fromRoots F19 ([a] : List Int) (fun x35 => V_pdivmod F19 p x35 (fun q => match q with | (x40, x44, r48) => V_eval F19 p a (fun r50 => ((r50 = (0 : Int)) → (((r48 = (0 : Int)) → (Q (decide (((x44.length : Nat) : Int) = (0 : Int))))) ∧ (¬ (r48 = (0 : Int)) → Q false))) ∧ (¬ (r50 = (0 : Int)) → (((r48 = (0 : Int)) → (V_lsame x44 ([r50] : List Int) (fun r58 => Q r58))) ∧ (¬ (r48 = (0 : Int)) → Q false)))))))))))))
def V_PolyDerives (Pf : Int) (Mf : Int) (mf : List Int) (p : List Int) (t : List Int) (Q : Bool → Prop) : Prop :=
  V_alive  (fun r14 => (((!r14) = true) → Q false) ∧ ((!r14) = false → (V_made Pf Mf mf (fun q => match q with | none => Q true | some F19 => V_short ([p, t] : List (List Int)) (fun r29 => (((!r29) = true) → Q true) ∧ ((!r29) = false → (V_deriv F19 p (fun x32 => V_deriv F19 t (fun x37 => V_rderiv Pf Mf mf p (fun x42 => V_lsame x32 x42 (fun r47 => (((!r47) = true) → Q false) ∧ ((!r47) = false → (V_rderiv Pf Mf mf t (fun x50 => V_lsame x37 x50 (fun r55 => (((!r55) = true) → Q false) ∧ ((!r55) = false → (V_pmul F19 ([p, t] : List (List Int)) (fun x61 => V_deriv F19 x61 (fun x66 => V_pmul F19 ([x32, t] : List (List Int)) (fun x74 => V_pmul F19 ([p, x37] : List (List Int)) (fun x82 => V_padd F19 x74 x82 (fun x87 => V_lsame x66 x87 (fun r92 => Q r92)))))))))))))))))))))))
def V_PolyComposes (Pf : Int) (Mf : Int) (mf : List Int) (vv0 : List Int) (vv1 : List Int) (x : Int) (Q : Bool → Prop) : Prop :=
  V_alive  (fun r16 => (((!r16) = true) → Q false) ∧ ((!r16) = false → (V_made Pf Mf mf (fun q => match q with | none => Q true | some F21 => V_short ([vv0, vv1] : List (List Int)) (fun r45 => (((!r45) = true) → Q true) ∧ ((!r45) = false → (V_compose F21 vv0 vv1 (fun q => match q with | (x48, r52) => ∃ (r56 : Int), V_rdeg Pf Mf mf vv0 (fun q => q = r56) ∧ (∃ (r63 : Int), V_rdeg Pf Mf mf vv1 (fun q => q = r63) ∧ ((I64 ((max r56 (0 : Int)) * (max r63 (0 : Int)))) ∧ ((((256 : Int) < ((max r56 (0 : Int)) * (max r63 (0 : Int)))) → (((r52 = (8 : Int)) → (Q (decide (((x48.length : Nat) : Int) = (0 : Int))))) ∧ (¬ (r52 = (8 : Int)) → Q false))) ∧ (¬ ((256 : Int) < ((max r56 (0 : Int)) * (max r63 (0 : Int)))) → ((r52 = (0 : Int)) ∧ (∃ (x82 : List Int), V_rcompose Pf Mf mf vv0 vv1 (fun q => q = x82) ∧ ((V_lsame x48 x82 (fun q => q = true)) ∧ (∃ (r100 : Int), V_reval Pf Mf mf x48 x (fun q => q = r100) ∧ (∃ (r109 : Int), V_reval Pf Mf mf vv1 x (fun q => q = r109) ∧ (∃ (r113 : Int), V_reval Pf Mf mf vv0 r109 (fun q => q = r113) ∧ (Q (decide (r100 = r113)))))))))))))))))))))
def V_PolyInterpolates (Pf : Int) (Mf : Int) (mf : List Int) (xs : List Int) (ys : List Int) (Q : Bool → Prop) : Prop :=
  V_alive  (fun r14 => (((!r14) = true) → Q false) ∧ ((!r14) = false → (V_made Pf Mf mf (fun q => match q with | none => Q true | some F19 => V_short ([xs, ys] : List (List Int)) (fun r29 => (((!r29) = true) → Q true) ∧ ((!r29) = false → (V_interp F19 xs ys (fun q => match q with | (x32, r36) => ((((xs.length : Nat) : Int) ≠ ((ys.length : Nat) : Int)) → (((r36 = (3 : Int)) → (Q (decide (((x32.length : Nat) : Int) = (0 : Int))))) ∧ (¬ (r36 = (3 : Int)) → Q false))) ∧ (¬ (((xs.length : Nat) : Int) ≠ ((ys.length : Nat) : Int)) → (∃ (I42 : Int → Prop) (μ43 : Int → Nat), I42 (0 : Int) ∧ ∀ (z41 : Int), (I42 z41 → (((z41 < ((xs.length : Nat) : Int)) → (∃ (I49 : Int → Prop) (μ50 : Int → Nat), I49 (0 : Int) ∧ ∀ (z48 : Int), (I49 z48 → (((z48 < z41) → ((0 ≤ z41 ∧ z41 < (xs.length : Nat)) ∧ (∃ (r60 : Int), V_rIn Pf Mf mf (gi xs z41) (fun q => q = r60) ∧ ((0 ≤ z48 ∧ z48 < (xs.length : Nat)) ∧ (∃ (r70 : Int), V_rIn Pf Mf mf (gi xs z48) (fun q => q = r70) ∧ (((r60 = r70) → (((r36 = (18 : Int)) → (Q (decide (((x32.length : Nat) : Int) = (0 : Int))))) ∧ (¬ (r36 = (18 : Int)) → Q false))) ∧ (¬ (r60 = r70) → ((I64 (z48 + (1 : Int))) ∧ (I49 (z48 + (1 : Int)) ∧ μ50 (z48 + (1 : Int)) < μ50 z48))))))))) ∧ (¬ (z48 < z41) → ((I64 (z41 + (1 : Int))) ∧ (I42 (z41 + (1 : Int)) ∧ μ43 (z41 + (1 : Int)) < μ43 z41))))))) ∧ (¬ (z41 < ((xs.length : Nat) : Int)) → (((r36 ≠ (0 : Int)) → Q false) ∧ (¬ (r36 ≠ (0 : Int)) → (((((xs.length : Nat) : Int) < ((x32.length : Nat) : Int)) → Q false) ∧ (¬ (((xs.length : Nat) : Int) < ((x32.length : Nat) : Int)) → (V_rcanon Pf Mf mf x32 (fun x83 => V_lsame x32 x83 (fun r88 => (((!r88) = true) → Q false) ∧ ((!r88) = false → (∃ (I93 : Int → Prop) (μ94 : Int → Nat), I93 (0 : Int) ∧ ∀ (z92 : Int), (I93 z92 → (((z92 < ((xs.length : Nat) : Int)) → ((0 ≤ z92 ∧ z92 < (xs.length : Nat)) ∧ (∃ (r105 : Int), V_reval Pf Mf mf x32 (gi xs z92) (fun q => q = r105) ∧ ((0 ≤ z92 ∧ z92 < (ys.length : Nat)) ∧ (∃ (r115 : Int), V_rIn Pf Mf mf (gi ys z92) (fun q => q = r115) ∧ (((r105 ≠ r115) → Q false) ∧ (¬ (r105 ≠ r115) → ((I64 (z92 + (1 : Int))) ∧ (I93 (z92 + (1 : Int)) ∧ μ94 (z92 + (1 : Int)) < μ94 z92))))))))) ∧ (¬ (z92 < ((xs.length : Nat) : Int)) → Q true)))))))))))))))))))))))))
def V_PolyReverses (Pf : Int) (Mf : Int) (mf : List Int) (p : List Int) (n : Int) (Q : Bool → Prop) : Prop :=
  V_alive  (fun r14 => (((!r14) = true) → Q false) ∧ ((!r14) = false → (V_made Pf Mf mf (fun q => match q with | none => Q true | some F19 => V_short ([p] : List (List Int)) (fun r29 => (((!r29) = true) → Q true) ∧ ((!r29) = false → (V_reverse F19 p n (fun q => match q with | (x32, r36) => ((n < (0 : Int)) → (((r36 = (6 : Int)) → (Q (decide (((x32.length : Nat) : Int) = (0 : Int))))) ∧ (¬ (r36 = (6 : Int)) → Q false))) ∧ (¬ (n < (0 : Int)) → ((((4096 : Int) < n) → (((r36 = (6 : Int)) → (Q (decide (((x32.length : Nat) : Int) = (0 : Int))))) ∧ (¬ (r36 = (6 : Int)) → Q false))) ∧ (¬ ((4096 : Int) < n) → (V_rdeg Pf Mf mf p (fun r42 => ((n < r42) → (((r36 = (6 : Int)) → (Q (decide (((x32.length : Nat) : Int) = (0 : Int))))) ∧ (¬ (r36 = (6 : Int)) → Q false))) ∧ (¬ (n < r42) → (((r36 ≠ (0 : Int)) → Q false) ∧ (¬ (r36 ≠ (0 : Int)) → ((I64 (n + (1 : Int))) ∧ ((((n + (1 : Int)) < ((x32.length : Nat) : Int)) → Q false) ∧ (¬ ((n + (1 : Int)) < ((x32.length : Nat) : Int)) → (V_rcanon Pf Mf mf x32 (fun x49 => V_lsame x32 x49 (fun r54 => (((!r54) = true) → Q false) ∧ ((!r54) = false → (∃ (I59 : Int → Prop) (μ60 : Int → Nat), I59 (0 : Int) ∧ ∀ (z58 : Int), (I59 z58 → (((z58 ≤ n) → (∃ (r67 : Int), V_rat Pf Mf mf x32 z58 (fun q => q = r67) ∧ ((I64 (n - z58)) ∧ (∃ (r77 : Int), V_rat Pf Mf mf p (n - z58) (fun q => q = r77) ∧ (((r67 ≠ r77) → Q false) ∧ (¬ (r67 ≠ r77) → ((I64 (z58 + (1 : Int))) ∧ (I59 (z58 + (1 : Int)) ∧ μ60 (z58 + (1 : Int)) < μ60 z58)))))))) ∧ (¬ (z58 ≤ n) → (V_reverse F19 x32 n (fun q => match q with | (x85, r89) => ((r89 = (0 : Int)) → (V_rcanon Pf Mf mf p (fun x92 => V_lsame x85 x92 (fun r97 => Q r97)))) ∧ (¬ (r89 = (0 : Int)) → Q false))))))))))))))))))))))))))))))
def V_PolyRoots (Pf : Int) (Mf : Int) (mf : List Int) (p : List Int) (Q : Bool → Prop) : Prop :=
  V_alive  (fun r14 => (((!r14) = true) → Q false) ∧ ((!r14) = false → (V_made Pf Mf mf (fun q => match q with | none => Q true | some F19 => V_short ([p] : List (List Int)) (fun r29 => (((!r29) = true) → Q true) ∧ ((!r29) = false → (V_roots F19 p (fun q => match q with | (x32, r36) => V_rdeg Pf Mf mf p (fun r38 => ((r38 < (0 : Int)) → (((r36 = (7 : Int)) → (Q (decide (((x32.length : Nat) : Int) = (0 : Int))))) ∧ (¬ (r36 = (7 : Int)) → Q false))) ∧ (¬ (r38 < (0 : Int)) → (((r36 ≠ (0 : Int)) → Q false) ∧ (¬ (r36 ≠ (0 : Int)) → (((r38 < ((x32.length : Nat) : Int)) → Q false) ∧ (¬ (r38 < ((x32.length : Nat) : Int)) → (V_rroots Pf Mf mf p (fun x44 => V_lsame x32 x44 (fun r49 => (((!r49) = true) → Q false) ∧ ((!r49) = false → (V_fromRoots F19 x32 (fun x52 => V_rdeg Pf Mf mf x52 (fun r57 => ((r57 = ((x32.length : Nat) : Int)) → (V_rrem Pf Mf mf p x52 (fun x60 => Q (decide (((x60.length : Nat) : Int) = (0 : Int)))))) ∧ (¬ (r57 = ((x32.length : Nat) : Int)) → Q false))))))))))))))))))))))
def V_PolyFactors (Pf : Int) (Mf : Int) (mf : List Int) (rs : List Int) (x : Int) (Q : Bool → Prop) : Prop :=
  V_alive  (fun r14 => (((!r14) = true) → Q false) ∧ ((!r14) = false → (V_made Pf Mf mf (fun q => match q with | none => Q true | some F19 => V_short ([rs] : List (List Int)) (fun r29 => (((!r29) = true) → Q true) ∧ ((!r29) = false → (V_fromRoots F19 rs (fun x32 => V_rfromRoots Pf Mf mf rs (fun x37 => V_lsame x32 x37 (fun r42 => (((!r42) = true) → Q false) ∧ ((!r42) = false → (∃ (I50 : Bool → Int → Prop) (μ51 : Bool → Int → Nat), I50 false (0 : Int) ∧ ∀ (b48 : Bool) (z49 : Int), (I50 b48 z49 → (((z49 < ((rs.length : Nat) : Int)) → (∃ J55 : Bool → Prop, ((0 ≤ z49 ∧ z49 < (rs.length : Nat)) ∧ (((b48 = true) → J55 true) ∧ (b48 = false → (∃ (r76 : Int), V_rIn Pf Mf mf (gi rs z49) (fun q => q = r76) ∧ (∃ (r82 : Int), V_rIn Pf Mf mf x (fun q => q = r82) ∧ (J55 (decide (r76 = r82)))))))) ∧ ∀ (b54 : Bool), (J55 b54 → ((I64 (z49 + (1 : Int))) ∧ (I50 b54 (z49 + (1 : Int)) ∧ μ51 b54 (z49 + (1 : Int)) < μ51 b48 z49))))) ∧ (¬ (z49 < ((rs.length : Nat) : Int)) → (V_eval F19 x32 x (fun r93 => Q ((decide (r93 = (0 : Int))) == b48))))))))))))))))))
end Go.Proofs.Ytmdigamgojfjdaa
set_option linter.unusedVariables false
set_option linter.unusedSimpArgs false
namespace Go.Proofs.Ytmdigamgojfjdaa
open Ks
/-! ### the field's operations -/
section
variable {k : Ks} {F : GFv} {P M : Int} {mf : List Int}
theorem el0 {x : Int} : k.el x = 0 ↔ inE (k.p ^ k.m) x = 0 := ⟨fun h => congrArg Subtype.val h, fun h => Subtype.ext h⟩
theorem w_Mul {x y : Int} {Q : Int → Prop} (K : GFk F k.p k.m k.v k.g) (h : Q (k.co (k.el x * k.el y))) : V_Mul F x y Q := v_Mul K h
theorem w_Add {x y : Int} {Q : Int → Prop} (K : GFk F k.p k.m k.v k.g) (h : Q (k.co (k.el x + k.el y))) : V_Add F x y Q := v_Add K h
theorem w_Neg {x : Int} {Q : Int → Prop} (K : GFk F k.p k.m k.v k.g) (h : Q (k.co (-(k.el x)))) : V_Neg F x Q := v_Neg K h
theorem w_Inv {x : Int} {Q : Int × Int → Prop} (K : GFk F k.p k.m k.v k.g) (h0 : k.el x = 0 → Q (0, 7)) (h1 : k.el x ≠ 0 → Q (k.co (inv_ (k.el x)), 0)) : V_Inv F x Q :=
  v_Inv K (fun h => h0 (el0.2 h)) fun z hne hz hi => by
    let u : k.E := ⟨z, hz⟩
    have e : u * k.el x = 1 := Subtype.ext hi
    have := h1 (fun h => hne (el0.1 h))
    rw [← inv_uniq e] at this; exact this
theorem w_rIn {x : Int} {Q : Int → Prop} (hF : FV P M mf k.p k.m k.v) (h : Q (k.co (k.el x))) : V_rIn P M mf x Q := v_rIn hF h
/-! ### lists that a loop fills -/
def Fill (val : Nat → Int) (n : Nat) (x : List Int) (z : Int) : Prop := ∃ j : Nat, z = j ∧ j ≤ n ∧ x.length = n ∧ ∀ i, i < j → vo x i = val i
theorem Fill.start (val : Nat → Int) (n : Nat) : Fill val n (List.replicate n (0 : Int)) 0 := ⟨0, rfl, Nat.zero_le _, List.length_replicate, fun i hi => by omega⟩
theorem Fill.step {val : Nat → Int} {n j : Nat} {x : List Int} (h : Fill val n x j) (hj : j < n) {u : Int} (hu : u = val j) : Fill val n (si x j u) ((j : Int) + 1) := by
  obtain ⟨i, e, h1, h2, h3⟩ := h
  obtain rfl : j = i := by omega
  refine ⟨j + 1, by push_cast; rfl, hj, by rw [si_nat, List.length_set, h2], fun i hi => ?_⟩
  rw [si_nat, vo_set]
  by_cases e2 : j = i
  · subst e2; rw [if_pos ⟨rfl, by omega⟩, hu]
  · rw [if_neg (fun h => e2 h.1)]; exact h3 i (by omega)
theorem fill_pol {x : List Int} {n : Nat} {f : Pl k.E} (hl : x.length = n) (hv : ∀ i, i < n → vo x i = k.co (f i)) (hs : Su f n) : k.Ell x ∧ k.pol x = f := by
  refine ⟨fun i hi => by rw [hv i (by omega)]; exact co_lt _, Pl.ext fun i => ?_⟩
  show k.el (vo x i) = f i
  by_cases hi : i < n
  · rw [hv i hi, el_co]
  · rw [vo_hi (by omega), hs i (by omega), el_zero]
/-! ### the program's polynomials -/
theorem w_coef {p : List Int} {i : Nat} {Q : Int → Prop} (K : GFk F k.p k.m k.v k.g) (h : Q (k.co (k.pol p i))) : V_coef F p i Q := by
  refine ⟨fun hi => ⟨⟨by omega, by omega⟩, v_Is K ⟨fun hb => ⟨⟨by omega, by omega⟩, ?_⟩, fun hb => ?_⟩⟩, fun hi => ?_⟩
  · rw [gi_nat] at hb ⊢
    have hb := of_decide_eq_true hb
    rwa [show k.co (k.pol p i) = vo p i from co_el hb] at h
  · rw [gi_nat] at hb
    have hb := of_decide_eq_false hb
    have : k.pol p i = 0 := by
      show k.el (vo p i) = 0
      exact el0.2 (by unfold inE; rw [if_neg hb])
    rw [this] at h; exact h
  · rw [pol_su p i (by omega)] at h; exact h
theorem w_deg {p : List Int} {Q : Int → Prop} (K : GFk F k.p k.m k.v k.g) (h : ∀ r, DegI (k.pol p) r → r < p.length → Q r) : V_deg F p Q := by
  show ∃ I J, _
  refine ⟨fun i z => Su (k.pol p) (p.length - i), fun r => DegI (k.pol p) r ∧ r < p.length, pol_su p, ?_, fun z hz => ?_, fun r hr => h r hr.1 hr.2⟩
  · intro i hi z hI
    refine w_coef K ⟨fun hne => ⟨.inr ⟨_, rfl, ?_, ?_⟩, by omega⟩, fun he => ?_⟩
    · exact fun e => hne (co_eq0.2 e)
    · rw [show p.length - 1 - i + 1 = p.length - i by omega]; exact hI
    · intro j hj
      by_cases e : j = p.length - 1 - i
      · rw [e]; exact co_eq0.1 (by simpa using he)
      · exact hI j (by omega)
  · refine h (-1) (.inl ⟨rfl, ?_⟩) (by omega)
    have hz : Su (k.pol p) (p.length - p.length) := hz
    rw [Nat.sub_self] at hz; exact hz.eq0
theorem deg_take {l : List Int} {r : Int} (he : k.Ell l) (h : DegI (k.pol l) r) (hr : r < l.length) : l.take (r + 1).toNat = k.L (k.pol l) ∧ ((k.L (k.pol l)).length : Int) = r + 1 := by
  rcases h with ⟨rfl, h2⟩ | ⟨d, rfl, h2⟩
  · rw [h2, L_zero]; exact ⟨rfl, rfl⟩
  · refine ⟨?_, by rw [L_dg h2]; omega⟩
    rw [show ((d : Int) + 1).toNat = d + 1 by omega]
    exact rp_take he (by omega) (fun _ => by rw [Nat.add_sub_cancel]; exact h2.1) h2.2
theorem w_canon {p : List Int} {Q : List Int → Prop} (K : GFk F k.p k.m k.v k.g) (hp : p.length ≤ 1000000) (h : Q (k.L (k.pol p))) : V_canon F p Q := by
  refine w_deg K fun r hr hlt => ?_
  have hr0 : -1 ≤ r := by rcases hr with ⟨h1, _⟩ | ⟨d, h1, _⟩ <;> omega
  obtain ⟨n, hn⟩ : ∃ n : Nat, r + 1 = n := ⟨(r + 1).toNat, by omega⟩
  rw [hn, Int.toNat_natCast]
  have hsu : Su (k.pol p) n := by
    rcases hr with ⟨h1, h2⟩ | ⟨d, h1, h2⟩
    · rw [h2]; exact Su.zero n
    · have := h2.2; rwa [show d + 1 = n by omega] at this
  refine ⟨small (by omega) (by omega), ⟨by omega, by omega, by omega⟩, Fill (fun i => k.co (k.pol p i)) n, fun x z => (n - z).toNat, Fill.start _ n, ?_⟩
  rintro x _ ⟨j, rfl, hj, hl, hv⟩
  dsimp only
  refine ⟨fun hz => w_coef K ⟨⟨by omega, by omega⟩, small (by omega) (by omega), Fill.step ⟨j, rfl, hj, hl, hv⟩ (by omega) rfl, by omega⟩, fun hz => ?_⟩
  obtain ⟨he, hpol⟩ := fill_pol hl (fun i hi => hv i (by omega)) hsu
  have : x = k.L (k.pol p) := L_eq ⟨he, fun h0 => ?_, hpol⟩
  · rw [this]; exact h
  · rw [hl] at h0 ⊢
    rw [hv (n - 1) (by omega)]
    rcases hr with ⟨h1, h2⟩ | ⟨d, h1, h2⟩
    · omega
    · rw [show n - 1 = d by omega]; exact fun e => h2.1 (co_eq0.1 e)
theorem w_trim {p : List Int} {Q : Int → Prop} (K : GFk F k.p k.m k.v k.g) (hp : p.length ≤ 1000000) (he : k.Ell p) (h : ∀ j : Int, 0 ≤ j → j ≤ p.length → p.take j.toNat = k.L (k.pol p) → Q j) : V_trim F p Q := by
  refine w_deg K fun r hr hlt => ?_
  have hr0 : -1 ≤ r := by rcases hr with ⟨h1, _⟩ | ⟨d, h1, _⟩ <;> omega
  exact ⟨small (by omega) (by omega), ⟨by omega, by omega⟩, h _ (by omega) (by omega) (deg_take he hr hlt).1⟩
def trn (f : Pl k.E) (j : Nat) : Pl k.E := fun i => if i < j then f i else 0
theorem w_addMultiple {s p : List Int} {o : Nat} {a : Int} {Q : List Int → Prop} (K : GFk F k.p k.m k.v k.g) (hs : s.length ≤ 100000) (hp : o + p.length ≤ s.length) (he : k.Ell s)
    (h : ∀ x, x.length = s.length → k.Ell x → k.pol x = k.pol s + mo (k.el a) o * k.pol p → Q x) : V_addMultiple F s o a p Q := by
  refine ⟨fun ha => h s rfl he ?_, fun ha => ?_⟩
  · rw [ha, el_zero, mo_zero, Cr.zero_mul, Cr.add_zero]
  · have hsum : ∀ j, j ≤ p.length → ∀ i, (if o ≤ i ∧ i < o + j then k.pol s i + k.el a * k.pol p (i - o) else k.pol s i) = (k.pol s + mo (k.el a) o * trn (k.pol p) j) i := fun j hj i => by
      rw [Pl.add_at, mo_mul]
      unfold trn
      by_cases h1 : o ≤ i
      · by_cases h2 : i < o + j
        · rw [if_pos ⟨h1, h2⟩, if_pos h1, if_pos (by omega)]
        · rw [if_neg (by omega), if_pos h1, if_neg (by omega), Cr.mul_zero, Cr.add_zero]
      · rw [if_neg (by omega), if_neg h1, Cr.add_zero]
    refine ⟨fun x z => ∃ j : Nat, z = j ∧ j ≤ p.length ∧ x.length = s.length ∧ ∀ i, i < s.length → vo x i = k.co (if o ≤ i ∧ i < o + j then k.pol s i + k.el a * k.pol p (i - o) else k.pol s i), fun x z => (p.length - z).toNat,
      ⟨0, rfl, Nat.zero_le _, rfl, fun i hi => by rw [if_neg (by omega)]; exact (co_el (he i hi)).symm⟩, ?_⟩
    rintro x _ ⟨j, rfl, hj, hl, hv⟩
    dsimp only
    rw [gi_nat, Int.toNat_natCast]
    refine ⟨fun hz => ⟨⟨by omega, by omega⟩, ⟨by omega, by omega⟩, _, w_Mul K rfl, _, w_Add K rfl, ⟨by omega, by omega⟩, small (by omega) (by omega), ⟨j + 1, by push_cast; rfl, by omega, by rw [si_nat, List.length_set, hl], fun i hi => ?_⟩, by omega⟩, fun hz => ?_⟩
    · rw [si_nat, vo_set, gi_nat]
      by_cases e : o + j = i
      · subst e
        rw [if_pos ⟨rfl, by omega⟩, if_pos ⟨by omega, by omega⟩, hv _ (by omega), if_neg (by omega), el_co, el_co, show o + j - o = j by omega]; rfl
      · rw [if_neg (fun h => e h.1), hv i hi]
        congr 1
        by_cases h1 : o ≤ i ∧ i < o + j
        · rw [if_pos h1, if_pos (by omega)]
        · rw [if_neg h1, if_neg (by omega)]
    · have hjp : j = p.length := by omega
      subst hjp
      have hsu : Su (k.pol s + mo (k.el a) o * k.pol p) s.length := ((pol_su s)).add (((mo_su (k.el a) o).mul (pol_su p)).mono (by omega))
      obtain ⟨h1, h2⟩ := fill_pol (f := k.pol s + mo (k.el a) o * k.pol p) hl (fun i hi => by
        rw [hv i hi, hsum p.length (Nat.le_refl _) i]
        have : trn (k.pol p) p.length = k.pol p := Pl.ext fun i => by
          unfold trn
          split
          · rfl
          · rename_i hc; exact (pol_su p i (by omega)).symm
        rw [this]) hsu
      exact h x hl h1 h2
end
end Go.Proofs.Ytmdigamgojfjdaa
set_option linter.unusedVariables false
set_option linter.unusedSimpArgs false
namespace Go.Proofs.Ytmdigamgojfjdaa
open Ks
/-! ### products, quotients, greatest common divisors -/
section
variable {k : Ks} {F : GFv} {P M : Int} {mf : List Int}
theorem take_L {p : List Int} (he : k.Ell p) : p.take (k.L (k.pol p)).length = k.L (k.pol p) := by
  have h := degI_L (pol_fs (k := k) p)
  have hl := L_len (pol_su (k := k) p)
  rcases Nat.eq_zero_or_pos (k.L (k.pol p)).length with h0 | h0
  · rw [h0, List.eq_nil_of_length_eq_zero h0]; rfl
  · have hd := (L_rp (pol_fs (k := k) p)).dg h0
    exact rp_take he hl (fun _ => hd.1) (L_su (pol_fs p))
theorem w_trim2 {p : List Int} {Q : Int → Prop} (K : GFk F k.p k.m k.v k.g) (hp : p.length ≤ 1000000) (he : k.Ell p) (h : Q (((k.L (k.pol p)).length : Nat) : Int)) : V_trim F p Q :=
  w_trim K hp he fun j h1 h2 h3 => by
    have : (((k.L (k.pol p)).length : Nat) : Int) = j := by rw [← h3, List.length_take]; omega
    rwa [this] at h
theorem trn_succ (f : Pl k.E) (j : Nat) : trn f (j + 1) = trn f j + mo (f j) j := Pl.ext fun i => by
  rw [Pl.add_at]
  unfold trn mo
  by_cases h : i < j
  · rw [if_pos (by omega), if_pos h, if_neg (by omega), Cr.add_zero]
  · by_cases h2 : i = j
    · rw [if_pos (by omega), if_neg h, if_pos h2, Cr.zero_add, h2]
    · rw [if_neg (by omega), if_neg h, if_neg h2, Cr.add_zero]
theorem trn_all {f : Pl k.E} {n : Nat} (h : Su f n) : trn f n = f := Pl.ext fun i => by
  unfold trn; split
  · rfl
  · rename_i hc; exact (h i (by omega)).symm
theorem trn_zero (f : Pl k.E) : trn f 0 = 0 := Pl.ext fun i => if_neg (Nat.not_lt_zero i)
theorem ell_rep (n : Nat) : k.Ell (List.replicate n (0 : Int)) := fun i hi => by rw [vo_rep]; exact ⟨Int.le_refl 0, by have := k.R.pos; omega⟩
theorem pol_rep (n : Nat) : k.pol (List.replicate n (0 : Int)) = 0 := Pl.ext fun i => by show k.el (vo _ i) = 0; rw [vo_rep, el_zero]
theorem top_ne {x : List Int} {n : Nat} (hn : x.length = n) (h : k.pol x (n - 1) ≠ 0) : 0 < x.length → vo x (x.length - 1) ≠ 0 := fun _ e => h (by
  show k.el (vo x (n - 1)) = 0
  rw [hn] at e; rw [e, el_zero])
theorem w_times {f h : Pl k.E} {Q : List Int → Prop} (K : GFk F k.p k.m k.v k.g) (hf : Fs f) (hh : Fs h) (h1 : (k.L f).length ≤ 40000) (h2 : (k.L h).length ≤ 40000) (hQ : Q (k.L (f * h))) : V_times F (k.L f) (k.L h) Q := by
  refine ⟨fun e => ?_, fun e => ⟨fun e2 => ?_, fun e2 => ?_⟩⟩
  · rw [(L_len0 hf).1 (by omega), Cr.zero_mul, L_zero] at hQ; exact hQ
  · rw [(L_len0 hh).1 (by omega), Cr.mul_zero, L_zero] at hQ; exact hQ
  · obtain ⟨a, ha⟩ : ∃ a, Dg f a := ⟨_, (L_rp hf).dg (by omega)⟩
    obtain ⟨b, hb⟩ : ∃ b, Dg h b := ⟨_, (L_rp hh).dg (by omega)⟩
    have la := L_dg ha; have lb := L_dg hb
    have hab := ha.mul hb
    have hn : (((k.L f).length : Nat) : Int) + (((k.L h).length : Nat) : Int) - 1 = ((a + b + 1 : Nat) : Int) := by omega
    rw [hn, Int.toNat_natCast]
    refine ⟨small (by omega) (by omega), small (by omega) (by omega), ⟨by omega, by omega, by omega⟩, fun x z => ∃ j : Nat, z = j ∧ j ≤ b + 1 ∧ x.length = a + b + 1 ∧ k.Ell x ∧ k.pol x = trn h j * f, fun x z => (b + 1 - z).toNat,
      ⟨0, rfl, Nat.zero_le _, List.length_replicate, ell_rep _, by rw [pol_rep, trn_zero, Cr.zero_mul]⟩, ?_⟩
    rintro x _ ⟨j, rfl, hj, hl, he, hp⟩
    dsimp only
    refine ⟨fun hz => ⟨⟨by omega, by omega⟩, ⟨by omega, by omega⟩, ?_⟩, fun hz => ?_⟩
    · rw [Int.toNat_natCast]
      refine w_addMultiple K (by omega) (by omega) he fun x' hl' he' hp' => ⟨small (by omega) (by omega), ⟨j + 1, by push_cast; rfl, by omega, by omega, he', ?_⟩, by omega⟩
      rw [hp', hp, trn_succ, Cr.add_mul, gi_nat, L_at hh, el_co, pol_L hf]
    · have hjb : j = b + 1 := by omega
      subst hjb
      rw [trn_all hb.2, Cr.mul_comm] at hp
      have : x = k.L (f * h) := L_eq ⟨he, top_ne hl (by rw [hp]; exact hab.1), hp⟩
      rw [this]; exact hQ
theorem L_one : k.L 1 = [1] := by
  refine (L_eq ⟨fun i hi => ?_, fun _ => ?_, Pl.ext fun i => ?_⟩).symm
  · have : i = 0 := by simp at hi; exact hi
    subst this
    exact ⟨by decide, Int.ofNat_lt.2 k.R.one_lt⟩
  · decide
  · show k.el (vo [1] i) = if i = 0 then 1 else 0
    by_cases h : i = 0
    · subst h; exact el_one
    · rw [if_neg h, vo_hi (by simp; omega), el_zero]
variable (k) in
def lpm (fs : List (List Int)) : Nat → Pl k.E
  | 0 => 1
  | n + 1 => lpm fs n * k.pol (gl fs n)
theorem lpm_su {fs : List (List Int)} (hb : ∀ i : Nat, i < fs.length → (gl fs i).length ≤ 1000) : ∀ n, n ≤ fs.length → Su (lpm k fs n) (1 + n * 1000)
  | 0, _ => Su.one
  | n + 1, hn => ((lpm_su hb n (by omega)).mul ((pol_su _).mono (hb n (by omega)))).mono (by omega)
theorem w_pmul {fs : List (List Int)} {Q : List Int → Prop} (K : GFk F k.p k.m k.v k.g) (hn : fs.length ≤ 30) (hb : ∀ i : Nat, i < fs.length → (gl fs i).length ≤ 1000) (h : Q (k.L (lpm k fs fs.length))) : V_pmul F fs Q := by
  refine ⟨fun x z => ∃ j : Nat, z = j ∧ j ≤ fs.length ∧ x = k.L (lpm k fs j), fun x z => (fs.length - z).toNat, ⟨0, rfl, Nat.zero_le _, L_one.symm⟩, ?_⟩
  rintro _ _ ⟨j, rfl, hj, rfl⟩
  dsimp only
  have hsu := lpm_su (k := k) hb j hj
  refine ⟨fun hz => ⟨⟨by omega, by omega⟩, ?_⟩, fun hz => ?_⟩
  · have hlj := hb j (by omega)
    refine w_canon K (by omega) (w_times K ⟨_, hsu⟩ (pol_fs _) (Nat.le_trans (L_len hsu) (by omega)) (Nat.le_trans (L_len (pol_su _)) (by omega)) ⟨small (by omega) (by omega), ⟨j + 1, by push_cast; rfl, by omega, rfl⟩, by omega⟩)
  · rw [show j = fs.length by omega]; exact h
theorem w_pmul2 {a b : List Int} {Q : List Int → Prop} (K : GFk F k.p k.m k.v k.g) (ha : a.length ≤ 1000) (hb : b.length ≤ 1000) (h : Q (k.L (k.pol a * k.pol b))) : V_pmul F [a, b] Q := by
  refine w_pmul K (by simp) (fun i hi => ?_) ?_
  · match i, hi with
    | 0, _ => exact ha
    | 1, _ => exact hb
  · show Q (k.L (1 * k.pol a * k.pol b))
    rw [Cr.one_mul]; exact h
theorem w_pdivmod {p t : List Int} {Q : List Int × List Int × Int → Prop} (K : GFk F k.p k.m k.v k.g) (hp : p.length ≤ 40000) (ht : t.length ≤ 40000) (h0 : k.pol t = 0 → Q ([], [], 7))
    (h1 : ∀ d, Dg (k.pol t) d → Q (k.L (qt (k.pol p) (k.pol t)), k.L (rm (k.pol p) (k.pol t)), 0)) : V_pdivmod F p t Q := by
  have hcp := L_len (pol_su (k := k) p)
  have hct := L_len (pol_su (k := k) t)
  refine ⟨_, w_canon K (by omega) rfl, w_canon K (by omega) ⟨fun e => h0 ((L_len0 (pol_fs t)).1 (by omega)), fun e => ?_⟩⟩
  obtain ⟨d, hd⟩ : ∃ d, Dg (k.pol t) d := ⟨_, (L_rp (pol_fs t)).dg (by omega)⟩
  have hdl := L_dg hd
  refine ⟨fun e u => e = 0 ∧ u = k.co (inv_ (k.pol t d)), ⟨small (by omega) (by omega), ⟨by omega, by omega⟩, k.co (inv_ (k.pol t d)), 0, ?_, rfl, rfl⟩, ?_⟩
  · rw [L_top hd]
    exact w_Inv K (fun e2 => by rw [el_co] at e2; exact absurd e2 hd.1) fun _ => by rw [el_co]
  rintro _ _ ⟨rfl, rfl⟩
  have hQ := h1 d hd
  have hfs := pol_fs (k := k) p
  generalize hf : k.pol p = f at *
  generalize hh : k.pol t = h at *
  generalize hm : (k.L f).length = m at *
  have hfm : Su f m := by rw [← hm]; exact L_su hfs
  obtain ⟨n, hn, hnm⟩ : ∃ n : Nat, max (0 : Int) ((m : Int) - (((k.L h).length : Nat) : Int) + 1) = n ∧ n = m - d := ⟨m - d, by rw [hdl]; omega, rfl⟩
  rw [hn, Int.toNat_natCast]
  refine ⟨small (by omega) (by omega), small (by omega) (by omega), ⟨by omega, by omega, by omega⟩, ?_⟩
  show ∃ I, _
  refine ⟨fun i xq xr => xq.length = n ∧ k.Ell xq ∧ xr.length = m ∧ k.Ell xr ∧ f = k.pol xq * h + k.pol xr ∧ Su (k.pol xr) (d + n - i) ∧ ∀ j, j < n - i → k.pol xq j = 0,
    ⟨List.length_replicate, ell_rep n, hm, (L_rp hfs).1, by rw [pol_rep, Cr.zero_mul, Cr.zero_add, pol_L hfs], by rw [pol_L hfs]; exact hfm.mono (by omega), fun j _ => by rw [pol_rep]; rfl⟩, ?_, ?_⟩
  · rintro i hi xq xr ⟨hql, hqe, hrl, hre, hfe, hrs, hq0⟩
    have e1 : ((n - 1 - i : Nat) : Int) + (((k.L h).length : Nat) : Int) - 1 = ((n - 1 - i + d : Nat) : Int) := by omega
    refine ⟨small (by omega) (by omega), small (by omega) (by omega), ?_⟩
    rw [e1]
    refine ⟨⟨by omega, by omega⟩, _, w_Mul K rfl, ⟨by omega, by omega⟩, ⟨by omega, by omega⟩, ⟨by omega, by omega⟩, _, w_Neg K rfl, ?_⟩
    rw [Int.toNat_natCast, gi_nat, gi_nat, si_nat, vo_set, if_pos ⟨rfl, by omega⟩, el_co, el_co]
    generalize hc : k.el (vo xr (n - 1 - i + d)) * inv_ (h d) = c
    refine w_addMultiple K (by omega) (by omega) hre fun xr' hl' he' hp' => ?_
    rw [el_co, pol_L (by rw [← hh]; exact pol_fs t)] at hp'
    have hset : k.pol (xq.set (n - 1 - i) (k.co c)) = k.pol xq + mo c (n - 1 - i) := Pl.ext fun j => by
      show k.el (vo _ j) = _
      rw [vo_set, Pl.add_at]
      unfold mo
      by_cases hj : n - 1 - i = j
      · subst hj
        rw [if_pos ⟨rfl, by omega⟩, if_pos rfl, hq0 _ (by omega), Cr.zero_add, el_co]
      · rw [if_neg (fun h => hj h.1), if_neg (Ne.symm hj), Cr.add_zero]; rfl
    have hneg : mo (-c) (n - 1 - i) = -(mo c (n - 1 - i)) := Pl.ext fun j => by
      rw [Pl.neg_at]; unfold mo; split
      · rfl
      · exact Cr.neg_zero.symm
    refine ⟨by rw [List.length_set, hql], fun j hj => ?_, by omega, he', ?_, ?_, fun j hj => ?_⟩
    · rw [vo_set]
      split
      · exact co_lt c
      · exact hqe j (by rw [List.length_set] at hj; exact hj)
    · rw [hset, hp', hneg, Cr.add_mul, Cr.neg_mul]
      refine hfe.trans ?_
      rw [Cr.add_assoc, Cr.add_comm (k.pol xr), ← Cr.add_assoc (mo c (n - 1 - i) * h), Cr.add_neg, Cr.zero_add]
    · intro j hj
      rw [hp', Pl.add_at, mo_mul, if_pos (by omega)]
      by_cases hjt : j = n - 1 - i + d
      · subst hjt
        rw [show n - 1 - i + d - (n - 1 - i) = d by omega, ← hc, Cr.neg_mul, Cr.mul_assoc, Cr.mul_comm (inv_ (h d)), mul_inv hd.1, Cr.mul_one]
        exact Cr.add_neg _
      · rw [hrs j (by omega), hd.2 (j - (n - 1 - i)) (by omega), Cr.mul_zero, Cr.add_zero]
    · rw [hset, Pl.add_at, hq0 j (by omega), mo, if_neg (by omega), Cr.add_zero]
  · rintro xq xr ⟨hql, hqe, hrl, hre, hfe, hrs, hq0⟩
    rw [show d + n - n = d by omega] at hrs
    obtain ⟨q1, q2⟩ := qt_uniq hd (pol_fs xq) hfe hrs
    have hxq : xq = k.L (qt f h) := by
      refine L_eq ⟨hqe, fun h0 => ?_, q1.symm⟩
      refine top_ne (k := k) hql ?_ h0
      rw [← q1]
      intro e0
      have hs1 : Su (qt f h) (n - 1) := fun j hj => by
        by_cases hjn : j = n - 1
        · rw [hjn]; exact e0
        · rw [q1]; exact pol_su xq j (by omega)
      have hdm := (L_rp hfs).dg (by omega)
      rw [hm] at hdm
      refine hdm.1 ?_
      have e2 : f = qt f h * h + rm f h := by rw [q1, q2]; exact hfe
      rw [e2, Pl.add_at, (hs1.mul hd.2) (m - 1) (by omega), q2, hrs (m - 1) (by omega), Cr.add_zero]
    have hl2 := L_len (pol_su (k := k) xr)
    refine ⟨_, w_trim2 K (by omega) hre rfl, ⟨by omega, by omega⟩, ?_⟩
    rw [Int.toNat_natCast, take_L hre, hxq, ← q2]; exact hQ
end
end Go.Proofs.Ytmdigamgojfjdaa
set_option linter.unusedVariables false
set_option linter.unusedSimpArgs false
namespace Go.Proofs.Ytmdigamgojfjdaa
open Ks
/-! ### greatest common divisors, values, derivatives, roots -/
section
variable {k : Ks} {F : GFv} {P M : Int} {mf : List Int}
/-- what cofactor answers -/
structure Cof (f h d u : Pl k.E) : Prop where
  fu : Fs u
  ex : ∃ v, Fs v ∧ d = u * f + v * h
  z0 : h = 0 → f = 0 → u = 0
  z1 : h = 0 → f ≠ 0 → ∃ c, c ≠ 0 ∧ u = ct c
  dg : ∀ b e, Dg h b → Dg d e → Su u (b - e)
def shf (f : Pl k.E) (s : Nat) : Pl k.E := fun j => f (s + j)
variable (k) in
def rvs (f : Pl k.E) (n : Nat) : Pl k.E := fun i => if i ≤ n then f (n - i) else 0
variable (k) in
open Classical in
/-- the roots among the elements below n -/
noncomputable def rts (f : Pl k.E) : Nat → List Int
  | 0 => []
  | n + 1 => if vl_ f (k.el (n : Int)) = 0 then rts f n ++ [(n : Int)] else rts f n
end
end Go.Proofs.Ytmdigamgojfjdaa
set_option linter.unusedVariables false
set_option linter.unusedSimpArgs false
namespace Go.Proofs.Ytmdigamgojfjdaa
open Ks
/-! ### derivatives, interpolation -/
section
variable {k : Ks} {F : GFv} {P M : Int} {mf : List Int}
/-! ### the reference's polynomials -/
theorem w_rcanon {p : List Int} {Q : List Int → Prop} (hF : FV P M mf k.p k.m k.v) (hp : p.length ≤ 1000000) (h : Q (k.L (k.pol p))) : V_rcanon P M mf p Q := by
  refine ⟨fun z i => ∃ n j : Nat, z = n ∧ i = j ∧ j ≤ p.length ∧ n ≤ j ∧ (∀ t, n ≤ t → t < j → k.pol p t = 0) ∧ (0 < n → k.pol p (n - 1) ≠ 0), fun z i => (p.length - i).toNat, ⟨0, 0, rfl, rfl, Nat.zero_le _, Nat.le_refl _, fun t _ h => by omega, fun h => by omega⟩, ?_⟩
  rintro _ _ ⟨n, j, rfl, rfl, hj, hnj, hz, hn0⟩
  dsimp only
  refine ⟨fun hlt => ⟨fun z _ => ∃ n' : Nat, z = n' ∧ n' ≤ j + 1 ∧ (∀ t, n' ≤ t → t < j + 1 → k.pol p t = 0) ∧ (0 < n' → k.pol p (n' - 1) ≠ 0), ⟨⟨by omega, by omega⟩, _, w_rIn hF rfl, fun hne => ⟨small (by omega) (by omega), j + 1, by push_cast; rfl, Nat.le_refl _, fun t _ _ => by omega, fun _ => ?_⟩, fun he => ⟨n, rfl, by omega, fun t h1 h2 => ?_, hn0⟩⟩, ?_⟩, fun hge => ?_⟩
  · rw [Nat.add_sub_cancel]; exact fun e => hne (co_eq0.2 e)
  · by_cases e : t = j
    · have he2 : k.co (k.el (gi p (j : Int))) = 0 := by simpa using he
      rw [e]; exact co_eq0.1 he2
    · exact hz t h1 (by omega)
  · rintro _ b ⟨n', rfl, h1, h2, h3⟩
    exact ⟨small (by omega) (by omega), ⟨n', j + 1, rfl, by push_cast; rfl, by omega, h1, h2, h3⟩, by omega⟩
  · have hjp : j = p.length := by omega
    subst hjp
    have hsu : Su (k.pol p) n := fun i hi => by
      by_cases h1 : i < p.length
      · exact hz i hi h1
      · exact pol_su p i (by omega)
    rw [Int.toNat_natCast]
    refine ⟨⟨by omega, by omega, by omega⟩, Fill (fun i => k.co (k.pol p i)) n, fun x z => (n - z).toNat, Fill.start _ n, ?_⟩
    rintro x _ ⟨j, rfl, hj2, hl, hv⟩
    dsimp only
    refine ⟨fun hlt => ⟨⟨by omega, by omega⟩, _, w_rIn hF rfl, ⟨by omega, by omega⟩, small (by omega) (by omega), Fill.step ⟨j, rfl, hj2, hl, hv⟩ (by omega) rfl, by omega⟩, fun hge2 => ?_⟩
    obtain ⟨he, hpol⟩ := fill_pol hl (fun i hi => hv i (by omega)) hsu
    have : x = k.L (k.pol p) := L_eq ⟨he, fun h0 => ?_, hpol⟩
    · rw [this]; exact h
    · refine top_ne (k := k) hl ?_ h0
      rw [hpol]; exact hn0 (by omega)
end
end Go.Proofs.Ytmdigamgojfjdaa
set_option linter.unusedVariables false
set_option linter.unusedSimpArgs false
namespace Go.Proofs.Ytmdigamgojfjdaa
open Ks
/-! ### the reference's quotients, values; what the laws ask first -/
section
variable {k : Ks} {F : GFv} {P M : Int} {mf : List Int}
theorem w_lsame {l o : List Int} {Q : Bool → Prop} (hl : l.length ≤ 1000000) (h : Q (decide (l = o))) : V_lsame l o Q := by
  refine ⟨fun hne => ?_, fun he => ?_⟩
  · rw [decide_eq_false (fun e => hne (by rw [e]))] at h; exact h
  · have hlen : l.length = o.length := by omega
    refine ⟨fun z => ∃ j : Nat, z = j ∧ j ≤ l.length ∧ ∀ i, i < j → vo l i = vo o i, fun z => (l.length - z).toNat, ⟨0, rfl, Nat.zero_le _, fun i hi => by omega⟩, ?_⟩
    rintro _ ⟨j, rfl, hj, hv⟩
    dsimp only
    rw [gi_nat, gi_nat]
    refine ⟨fun hz => ⟨⟨by omega, by omega⟩, ⟨by omega, by omega⟩, fun hne => ?_, fun he => ⟨small (by omega) (by omega), ⟨j + 1, by push_cast; rfl, by omega, fun i hi => ?_⟩, by omega⟩⟩, fun hz => ?_⟩
    · rw [decide_eq_false (fun e => hne (by rw [e]))] at h; exact h
    · by_cases e : i = j
      · rw [e]; exact Decidable.not_not.1 he
      · exact hv i (by omega)
    · rw [decide_eq_true (vo_ext hlen fun i hi => hv i (by omega))] at h; exact h
end
theorem FV.same {P M : Int} {mf : List Int} {p m v p' m' v' : Nat} (F : FV P M mf p m v) (F' : FV P M mf p' m' v') : p = p' ∧ m = m' ∧ v = v' := by
  have h1 := F.eP; have h2 := F'.eP; have h3 := F.eM; have h4 := F'.eM
  have e1 : p = p' := by omega
  have e2 : m = m' := by omega
  subst e1; subst e2
  refine ⟨rfl, rfl, ?_⟩
  have hp := F.p2
  rw [← nm_dv (p := p) (m := m) (by omega) F.vlt, ← nm_dv (p := p) (m := m) (by omega) F'.vlt, ← F.vo, ← F'.vo]
theorem w_made {P M : Int} {mf : List Int} {Q : Option GFv → Prop} (h0 : ¬ Valid P M mf → Q none) (h1 : ∀ (F : GFv) (k : Ks), GFk F k.p k.m k.v k.g → FV P M mf k.p k.m k.v → Q (some F)) : V_made P M mf Q := by
  refine v_rCheck ⟨fun hn => h0 fun hV => hn (ck_ok hV), fun hn => ?_⟩
  refine v_New (fun hV => absurd (ck_no hV) (by intro e; rw [e] at hn; exact hn (by decide))) fun F p m v g K eP eM em => ⟨fun h => absurd rfl h, fun _ => ?_⟩
  have hF : FV P M mf p m v := by have := K.fv; rwa [eP, eM, em] at this
  exact h1 F ⟨p, m, v, g, hF.p2, hF.m0, hF.q, hF.ring, K.G⟩ K hF
theorem prime2 : IsLf 2 2 := ⟨by decide, rfl, fun e he _ => he⟩
theorem prime5 : IsLf 5 5 := ⟨by decide, rfl, fun e he h => by
  rcases Nat.lt_or_ge e 5 with hc | hc
  · match e, he, hc with
    | 2, _, _ => exact absurd h (by decide)
    | 3, _, _ => exact absurd h (by decide)
    | 4, _, _ => exact absurd h (by decide)
  · exact hc⟩
end Go.Proofs.Ytmdigamgojfjdaa
set_option linter.unusedVariables false
set_option linter.unusedSimpArgs false
namespace Go.Proofs.Ytmdigamgojfjdaa
open Ks
theorem ell_of {k : Ks} {l : List Int} (h : ∀ x ∈ l, 0 ≤ x ∧ x < ((k.p ^ k.m : Nat) : Int)) : k.Ell l := fun i hi => by
  unfold vo
  rw [List.getD_eq_getElem?_getD, List.getElem?_eq_getElem hi]
  exact h _ (List.getElem_mem hi)
theorem w_alive {Q : Bool → Prop} (h : Q true) : V_alive Q := by
  refine w_made (fun hn => absurd ⟨_, _, _, valid_one prime2 (by decide)⟩ hn) fun F k K hF => ?_
  refine w_made (fun hn => absurd ⟨_, _, _, valid_one prime5 (by decide)⟩ hn) fun F' k' K' hF' => ?_
  obtain ⟨p, m, v, g, p2, m0, q256, R, G⟩ := k
  obtain ⟨p', m', v', g', p2', m0', q256', R', G'⟩ := k'
  obtain ⟨rfl, rfl, rfl⟩ := (valid_one prime2 (by decide)).same hF
  obtain ⟨rfl, rfl, rfl⟩ := (valid_one prime5 (by decide)).same hF'
  generalize hk : (⟨2, 1, 0, g, p2, m0, q256, R, G⟩ : Ks) = k at *
  generalize hk' : (⟨5, 1, 0, g', p2', m0', q256', R', G'⟩ : Ks) = k' at *
  have e1 : k.pol [1, 1, 1] * k.pol [1, 1] = k.pol [1, 0, 0, 1] := Pl.ext fun i => by
    subst hk
    match i with
    | 0 => exact Subtype.ext (by kernel_rfl)
    | 1 => exact Subtype.ext (by kernel_rfl)
    | 2 => exact Subtype.ext (by kernel_rfl)
    | 3 => exact Subtype.ext (by kernel_rfl)
    | i + 4 => rw [((pol_su [1, 1, 1]).mul (pol_su [1, 1])) (i + 4) (by simp), pol_su [1, 0, 0, 1] (i + 4) (by simp)]
  have e2 : k'.pol [1, 2, 0, 1] = k'.pol [1, 2, 1] * k'.pol [3, 1] + k'.pol [3] := Pl.ext fun i => by
    subst hk'
    match i with
    | 0 => exact Subtype.ext (by kernel_rfl)
    | 1 => exact Subtype.ext (by kernel_rfl)
    | 2 => exact Subtype.ext (by kernel_rfl)
    | 3 => exact Subtype.ext (by kernel_rfl)
    | i + 4 => rw [pol_su [1, 2, 0, 1] (i + 4) (by simp), Pl.add_at, ((pol_su [1, 2, 1]).mul (pol_su [3, 1])) (i + 4) (by simp), pol_su [3] (i + 4) (by simp), Cr.add_zero]
  have d1 : Dg (k'.pol [3, 1]) 1 := ⟨fun e => absurd (congrArg Subtype.val e) (by subst hk'; show ¬ (1 : Nat) = 0; decide), pol_su [3, 1]⟩
  have q5 : ((k'.p ^ k'.m : Nat) : Int) = 5 := by subst hk'; rfl
  have q2 : ((k.p ^ k.m : Nat) : Int) = 2 := by subst hk; rfl
  obtain ⟨r1, r2⟩ := qt_uniq d1 (pol_fs _) e2 ((pol_su [3]).mono (by simp))
  have K1 : GFk F k.p k.m k.v k.g := by subst hk; exact K
  have K2 : GFk F' k'.p k'.m k'.v k'.g := by subst hk'; exact K'
  dsimp only
  refine w_pdivmod K2 (by simp) (by simp) (fun e => absurd e d1.ne) fun d hd => ?_
  rw [r1, r2, L_pol (ell_of (by rw [q5]; decide)) (by decide), L_pol (ell_of (by rw [q5]; decide)) (by decide)]
  refine w_pmul2 K1 (by simp) (by simp) ?_
  rw [e1, L_pol (ell_of (by rw [q2]; decide)) (by decide)]
  refine w_lsame (by simp) ⟨fun _ => ⟨fun _ => w_lsame (by simp) ⟨fun _ => w_lsame (by simp) h, fun h' => absurd h' (by decide)⟩, fun h' => absurd rfl h'⟩, fun h' => absurd h' (by decide)⟩
/-! ### the laws -/
section
variable {k : Ks} {F : GFv} {P M : Int} {mf : List Int}
theorem w_same {l o : List Int} {Q : Bool → Prop} (hl : l.length ≤ 1000000) (e : l = o) (h : Q true) : V_lsame l o Q := w_lsame hl (by rw [decide_eq_true e]; exact h)
theorem nb {A B : Prop} (h : B) : ((!true) = true → A) ∧ ((!true) = false → B) := ⟨fun e => absurd e (by decide), fun _ => h⟩
theorem pb {A B : Prop} (h : A) : (true = true → A) ∧ (true = false → B) := ⟨fun _ => h, fun e => absurd e (by decide)⟩
theorem f0 {A B : Prop} (h : B) : ((0 : Int) ≠ 0 → A) ∧ (¬ ((0 : Int) ≠ 0) → B) := ⟨fun e => absurd rfl e, fun _ => h⟩
theorem law_PolyCanon (p : List Int) : V_PolyCanon P M mf p (fun b => b = true) := by
  refine w_alive ⟨fun h => absurd h (by decide), fun _ => w_made (fun _ => rfl) fun F k K hF => ⟨fun _ => rfl, fun hp => ?_⟩⟩
  have hl := L_len (pol_su (k := k) p)
  refine w_canon K (by omega) (w_rcanon hF (by omega) (w_same (by omega) rfl (pb (w_deg K fun r hr hlt => ⟨small (by omega) (by omega), fun _ => w_canon K (by omega) (w_same ?_ (L_idem (pol_fs p)) rfl), fun hne => absurd (hr.uniq (degI_L (pol_fs p))) hne⟩))))
  rw [L_idem (pol_fs p)]; omega
end
end Go.Proofs.Ytmdigamgojfjdaa
