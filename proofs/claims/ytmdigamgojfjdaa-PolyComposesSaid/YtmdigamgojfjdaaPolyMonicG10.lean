/- Contracts of functions of the program, and what they lean on: D9. -/
import Derived.Test.YtmdigamgojfjdaaPolyMonicG9
set_option linter.unusedSimpArgs false
set_option linter.unusedVariables false
namespace Go.Proofs.Ytmdigamgojfjdaa
open Go.RowKit
def V_rcanon (Pf : Int) (Mf : Int) (mf : List Int) (p : List Int) (Q : List Int → Prop) : Prop :=
  ∃ (I19 : Int → Int → Prop) (μ20 : Int → Int → Nat), I19 (0 : Int) (0 : Int) ∧ ∀ (z17 : Int) (z18 : Int), (I19 z17 z18 → (((z18 < ((p.length : Nat) : Int)) → (∃ J25 : Int → Bool → Prop, ((0 ≤ z18 ∧ z18 < (p.length : Nat)) ∧ (∃ (r33 : Int), V_rIn Pf Mf mf (gi p z18) (fun q => q = r33) ∧ (((r33 ≠ (0 : Int)) → ((I64 (z18 + (1 : Int))) ∧ (J25 (z18 + (1 : Int)) (decide (r33 ≠ (0 : Int)))))) ∧ (¬ (r33 ≠ (0 : Int)) → (J25 z17 (decide (r33 ≠ (0 : Int)))))))) ∧ ∀ (z23 : Int) (b24 : Bool), (J25 z23 b24 → ((I64 (z18 + (1 : Int))) ∧ (I19 z23 (z18 + (1 : Int)) ∧ μ20 z23 (z18 + (1 : Int)) < μ20 z17 z18))))) ∧ (¬ (z18 < ((p.length : Nat) : Int)) → ((0 ≤ z17 ∧ z17 * 8 ≤ 281474976710656 ∧ z17 ≤ 281474976710656) ∧ (∃ (I53 : List Int → Int → Prop) (μ54 : List Int → Int → Nat), I53 (List.replicate z17.toNat (0 : Int)) (0 : Int) ∧ ∀ (x51 : List Int) (z52 : Int), (I53 x51 z52 → (((z52 < z17) → ((0 ≤ z52 ∧ z52 < (p.length : Nat)) ∧ (∃ (r66 : Int), V_rIn Pf Mf mf (gi p z52) (fun q => q = r66) ∧ ((0 ≤ z52 ∧ z52 < (z17.toNat : Nat)) ∧ ((I64 (z52 + (1 : Int))) ∧ (I53 (si x51 z52 r66) (z52 + (1 : Int)) ∧ μ54 (si x51 z52 r66) (z52 + (1 : Int)) < μ54 x51 z52)))))) ∧ (¬ (z52 < z17) → Q x51))))))))
theorem ok_rcanon {w : World} {Q : List Int → Prop} {Pf : Int} {Mf : Int} {mf : List Int} {p : List Int} {Bf : Nat} {Af : Option Addr} {nf kf : Nat} (hf : Rd Bf w 1 Af nf kf (is mf)) {Bp : Nat} {Ap : Option Addr} {np kp : Nat} (hp : Rd Bp w 1 Ap np kp (is p)) (hv : V_rcanon Pf Mf mf p Q) :
    Calls Try.prog 24 #[.agg #[.int .i64 Pf, .int .i64 Mf, .slice Af nf kf], .slice Ap np kp] w fun e w' => ∃ v Qr, e = .returned v ∧ w.grownBy w' none ∧ Rows w.heap.size none w' Qr ∧ News w.heap.size Qr ∧ ∃ (r0 : List Int) (Ar0 : Option Addr) (cr0 : Nat), v = .slice Ar0 r0.length cr0 ∧ Qr = [.row 3 1 Ar0 r0.length cr0 (is r0)] ∧ Q r0 := by
  have hnf := hf.ilen
  subst hnf
  have hnp := hp.ilen
  subst hnp
  refine calls_swap ?_
  refine calls_of_W (vs := [.agg #[.int .i64 Pf, .int .i64 Mf, .slice Af mf.length kf], .slice Ap p.length kp]) [4] Try.func24 rfl rfl rfl rfl ?_
  have hS := St.start w
  unfold V_rcanon at hv
  refine W.seq ?_
  refine W.region ?_
  refine SL.box (z := 3) (cs := [.int .i64 Pf, .int .i64 Mf, .slice Af mf.length kf]) hS rfl rfl rfl rfl ?_
  intro g11 w12 hS
  refine WL.assign rfl rfl ?_
  refine WL.done ?_
  refine W.seq ?_
  refine W.region ?_
  refine WL.assign rfl rfl ?_
  refine WL.done ?_
  refine W.seq ?_
  refine W.seq ?_
  refine W.region ?_
  refine WL.assign rfl rfl ?_
  refine WL.done ?_
  refine W.block ?_
  obtain ⟨I19, μ20, hv, hk74⟩ := hv
  change St _ _ _ _ [.row 24 3 (some ⟨g11, 0, none⟩) 1 1 [.int .i64 Pf, .int .i64 Mf, .slice Af mf.length kf]] at hS
  refine W.loop (σ := Int × Int) (fun q w1 => match q with | (z17, z18) => I19 z17 z18 ∧ St TT w none w1 [.row 24 3 (some ⟨g11, 0, none⟩) 1 1 [.int .i64 Pf, .int .i64 Mf, .slice Af mf.length kf]]) (fun q => match q with | (z17, z18) => [(1, .slice Ap p.length kp), (2, .pointer (some ⟨g11, 0, none⟩)), (4, .slice none 0 0), (5, .int .i64 z17), (6, .int .i64 z18)]) (fun q => match q with | (z17, z18) => μ20 z17 z18) ((0 : Int), (0 : Int)) ⟨hv, hS⟩ ⟨rfl, rfl, rfl, rfl, rfl, trivial⟩ ?_
  rintro ⟨z17, z18⟩ w21 ⟨hv, hS⟩
  have hv := hk74 z17 z18 hv
  refine W.seq ?_
  refine W.seq ?_
  refine W.region ?_
  refine WL.move rfl rfl ?_
  refine WL.move rfl rfl ?_
  refine WL.len Try.underlying22 rfl rfl ?_
  refine WL.lssD rfl rfl rfl ?_
  refine WL.done ?_
  refine W.cond2 rfl (fun c22 => ?_) (fun c22 => ?_)
  · have hv := hv.1 (of_decide_eq_true c22)
    refine W.skip ?_
    refine W.seq ?_
    obtain ⟨J25, hv, hk42⟩ := hv
    refine W.cutN (σ := Int × Bool) (fun q w1 => match q with | (z23, b24) => J25 z23 b24 ∧ St TT w none w1 [.row 24 3 (some ⟨g11, 0, none⟩) 1 1 [.int .i64 Pf, .int .i64 Mf, .slice Af mf.length kf]]) (fun q => match q with | (z23, b24) => [(1, .slice Ap p.length kp), (2, .pointer (some ⟨g11, 0, none⟩)), (4, .slice none 0 0), (5, .int .i64 z23), (6, .int .i64 z18), (12, .bool (decide (z18 < ((p.length : Nat) : Int)))), (21, .bool b24)]) ?_ ?_
    · refine W.block ?_
      refine W.seq ?_
      obtain ⟨o30, hv⟩ := hv
      obtain ⟨r33, o35, hv⟩ := hv
      have hS0 := hS
      refine W.drawX 7 (fun _ => false) (fun _ => none) [⟨[], [2], false⟩, ⟨[], [1], true⟩, ⟨[], [6], true⟩, ⟨[1, 2], [], true⟩, ⟨[3], [], false⟩, ⟨[0, 4], [], false⟩, ⟨[5], [], true⟩] [[(2, .pointer (some ⟨g11, 0, none⟩))], [(1, .slice Ap p.length kp)], [(6, .int .i64 z18)], [], [], [], []] (fun iQ => [fun v _ => v = .agg #[.int .i64 Pf, .int .i64 Mf, .slice Af mf.length kf], fun v _ => v = .slice Ap p.length kp, fun v _ => v = .int .i64 z18, fun v _ => v = .pointer (some ((adOf Ap).add z18.toNat)), fun v _ => v = .int .i64 (gi p z18), fun v _ => v = .int .i64 r33, fun v _ => v = .bool (decide (r33 ≠ (0 : Int)))].getD iQ (fun _ _ => True)) Try.mixed (by kernel_rfl) ?_ (by kernel_rfl) ?_ ?_
      · refine Vs_monoT _ ?_
        intro VQ hVQ vQ wQ1 wQ2 hQ1 hQ2
        simp only [List.mem_cons, List.not_mem_nil, or_false] at hVQ
        rcases hVQ with rfl | rfl | rfl | rfl | rfl | rfl | rfl
        · exact hQ1
        · exact hQ1
        · exact hQ1
        · exact hQ1
        · exact hQ1
        · exact hQ1
        · exact hQ1
      · refine ⟨⟨rfl, ⟨rfl, trivial⟩, ?_⟩, ⟨rfl, ⟨rfl, trivial⟩, ?_⟩, ⟨rfl, ⟨rfl, trivial⟩, ?_⟩, ⟨rfl, trivial, ?_⟩, ⟨rfl, trivial, ?_⟩, ⟨rfl, trivial, ?_⟩, ⟨rfl, trivial, ?_⟩, trivial⟩
        · intro w26 hE
          have hE := hE rfl
          have hS := hS.grow hE
          intro RR
          refine WL.loadV (cs := [.int .i64 Pf, .int .i64 Mf, .slice Af mf.length kf]) Try.el24 Try.agg24 rfl rfl (Own.vcells (hS.own (i := 0) rfl)) rfl ?_
          exact WL.done ⟨_, rfl, ext_refl _, rfl, (fun h => absurd h (by decide)), (fun j h => by cases h)⟩
        · intro w27 hE
          intro RR
          refine WL.move rfl rfl ?_
          exact WL.done ⟨_, rfl, rfl, rfl, (fun h => absurd h (by decide)), (fun j h => by cases h)⟩
        · intro w28 hE
          intro RR
          refine WL.move rfl rfl ?_
          exact WL.done ⟨_, rfl, rfl, rfl, (fun h => absurd h (by decide)), (fun j h => by cases h)⟩
        · intro w29 hE
          rintro _ rfl
          rintro _ rfl
          intro RR
          refine SL.index Try.underlying22 Try.el3 (hS.ro hp) rfl rfl o30 rfl ?_
          exact WL.done ⟨_, rfl, rfl, rfl, (fun h => absurd h (by decide)), (fun j h => by cases h)⟩
        · intro w31 hE
          have hE := hE rfl
          have hS := hS.grow hE
          rintro _ rfl
          intro RR
          refine WL.load Try.underlying3 rfl rfl (Rd.gi (hS.ro hp) o30) rfl ?_
          exact WL.done ⟨_, rfl, ext_refl _, rfl, (fun h => absurd h (by decide)), (fun j h => by cases h)⟩
        · intro w32 hE
          have hE := hE rfl
          have hS := hS.grow hE
          rintro _ rfl
          rintro _ rfl
          intro RR
          refine WL.call Try.func56 rfl Try.nm56 rfl rfl (calls_un (ok_rIn (hS.ro hf) o35)) ?_
          rintro _ w34 ⟨_, hGw34, hRww34, hNww34, r33q, rfl, rfl, he⟩
          subst he
          exact WL.done ⟨_, rfl, hGw34, rfl, (fun h => absurd h (by decide)), (fun j h => by cases h)⟩
        · intro w36 hE
          rintro _ rfl
          intro RR
          refine WL.neqD rfl rfl rfl ?_
          exact WL.done ⟨_, rfl, rfl, rfl, (fun h => absurd h (by decide)), (fun j h => by cases h)⟩
      · intro vals w37 hT hVs hAp hCp
        have hS := hS.grow hT
        have hv0 : vals 0 = _ := hVs 0 (by decide)
        have hv1 : vals 1 = _ := hVs 1 (by decide)
        have hv2 : vals 2 = _ := hVs 2 (by decide)
        have hv3 : vals 3 = _ := hVs 3 (by decide)
        have hv4 : vals 4 = _ := hVs 4 (by decide)
        have hv5 : vals 5 = _ := hVs 5 (by decide)
        have hv6 : vals 6 = _ := hVs 6 (by decide)
        rw [show (List.filterMap (fun i => Option.map (fun t => (t, vals i)) (dstAt _ i)) (List.range _)) = [(15, .agg #[.int .i64 Pf, .int .i64 Mf, .slice Af mf.length kf]), (16, .slice Ap p.length kp), (17, .int .i64 z18), (18, .pointer (some ((adOf Ap).add z18.toNat))), (19, .int .i64 (gi p z18)), (20, .int .i64 r33), (21, .bool (decide (r33 ≠ (0 : Int))))] from by
          show [(15, vals 0), (16, vals 1), (17, vals 2), (18, vals 3), (19, vals 4), (20, vals 5), (21, vals 6)] = _
          rw [hv0, hv1, hv2, hv3, hv4, hv5, hv6]]
        refine WA.done (by decide +kernel) ?_
        refine W.cond2 rfl (fun c38 => ?_) (fun c38 => ?_)
        · have hv := hv.1 (of_decide_eq_true c38)
          refine W.region ?_
          refine WL.move rfl rfl ?_
          obtain ⟨o39, hv⟩ := hv
          refine WL.add (r := (z18 + (1 : Int))) rfl rfl (wr o39) rfl ?_
          refine WL.assign rfl rfl ?_
          refine WL.done ?_
          change St _ _ _ _ [.row 24 3 (some ⟨g11, 0, none⟩) 1 1 [.int .i64 Pf, .int .i64 Mf, .slice Af mf.length kf]] at hS
          exact ⟨((z18 + (1 : Int)), (decide (r33 ≠ (0 : Int)))), ⟨rfl, rfl, rfl, rfl, rfl, rfl, rfl, trivial⟩, rfl, hv, hS⟩
        · have hv := hv.2 (of_decide_eq_false c38)
          refine W.skip ?_
          change St _ _ _ _ [.row 24 3 (some ⟨g11, 0, none⟩) 1 1 [.int .i64 Pf, .int .i64 Mf, .slice Af mf.length kf]] at hS
          exact ⟨(z17, (decide (r33 ≠ (0 : Int)))), ⟨rfl, rfl, rfl, rfl, rfl, rfl, rfl, trivial⟩, rfl, hv, hS⟩
    · rintro ⟨z23, b24⟩ w40 ⟨hv, hS⟩
      have hv := hk42 z23 b24 hv
      refine W.region ?_
      refine WL.move rfl rfl ?_
      obtain ⟨o41, hv⟩ := hv
      refine WL.add (r := (z18 + (1 : Int))) rfl rfl (wr o41) rfl ?_
      refine WL.assign rfl rfl ?_
      refine WL.done ?_
      change St _ _ _ _ [.row 24 3 (some ⟨g11, 0, none⟩) 1 1 [.int .i64 Pf, .int .i64 Mf, .slice Af mf.length kf]] at hS
      exact ⟨(z23, (z18 + (1 : Int))), ⟨rfl, rfl, rfl, rfl, rfl, trivial⟩, hv.2, rfl, hv.1, hS⟩
  · have hv := hv.2 (of_decide_eq_false c22)
    refine W.exit ?_
    refine W.seq ?_
    refine W.region ?_
    refine WL.move rfl rfl ?_
    obtain ⟨o43, hv⟩ := hv
    refine SL.make (J := z17) hS Try.underlying22 Try.el3 rfl rfl o43 (made_is _) rfl ?_
    intro A44 w45 hS
    refine WL.assign rfl rfl ?_
    refine WL.done ?_
    refine W.seq ?_
    refine W.seq ?_
    refine W.region ?_
    refine WL.assign rfl rfl ?_
    refine WL.done ?_
    refine W.block ?_
    obtain ⟨I53, μ54, hv, hk73⟩ := hv
    change St _ _ _ _ [.row 3 1 A44 z17.toNat z17.toNat (is (List.replicate z17.toNat (0 : Int))), .row 24 3 (some ⟨g11, 0, none⟩) 1 1 [.int .i64 Pf, .int .i64 Mf, .slice Af mf.length kf]] at hS
    refine W.loop (σ := List Int × Int) (fun q w1 => match q with | (x51, z52) => I53 x51 z52 ∧ St TT w none w1 [.row 3 1 A44 z17.toNat z17.toNat (is x51), .row 24 3 (some ⟨g11, 0, none⟩) 1 1 [.int .i64 Pf, .int .i64 Mf, .slice Af mf.length kf]]) (fun q => match q with | (x51, z52) => [(1, .slice Ap p.length kp), (2, .pointer (some ⟨g11, 0, none⟩)), (4, .slice none 0 0), (5, .int .i64 z17), (7, .slice A44 z17.toNat z17.toNat), (8, .int .i64 z52)]) (fun q => match q with | (x51, z52) => μ54 x51 z52) (List.replicate z17.toNat (0 : Int), (0 : Int)) ⟨hv, hS⟩ ⟨rfl, rfl, rfl, rfl, rfl, rfl, trivial⟩ ?_
    rintro ⟨x51, z52⟩ w55 ⟨hv, hS⟩
    have hv := hk73 x51 z52 hv
    refine W.seq ?_
    refine W.seq ?_
    refine W.region ?_
    refine WL.move rfl rfl ?_
    refine WL.move rfl rfl ?_
    refine WL.lssD rfl rfl rfl ?_
    refine WL.done ?_
    refine W.cond2 rfl (fun c56 => ?_) (fun c56 => ?_)
    · have hv := hv.1 (of_decide_eq_true c56)
      refine W.skip ?_
      refine W.seq ?_
      refine W.block ?_
      obtain ⟨o63, hv⟩ := hv
      obtain ⟨r66, o68, hv⟩ := hv
      have hS0 := hS
      refine W.drawX 8 (fun _ => false) (fun _ => none) [⟨[], [7], true⟩, ⟨[], [8], true⟩, ⟨[], [2], false⟩, ⟨[], [1], true⟩, ⟨[], [8], true⟩, ⟨[3, 4], [], true⟩, ⟨[5], [], false⟩, ⟨[2, 6], [], false⟩] [[(7, .slice A44 z17.toNat z17.toNat)], [(8, .int .i64 z52)], [(2, .pointer (some ⟨g11, 0, none⟩))], [(1, .slice Ap p.length kp)], [(8, .int .i64 z52)], [], [], []] (fun iQ => [fun v _ => v = .slice A44 z17.toNat z17.toNat, fun v _ => v = .int .i64 z52, fun v _ => v = .agg #[.int .i64 Pf, .int .i64 Mf, .slice Af mf.length kf], fun v _ => v = .slice Ap p.length kp, fun v _ => v = .int .i64 z52, fun v _ => v = .pointer (some ((adOf Ap).add z52.toNat)), fun v _ => v = .int .i64 (gi p z52), fun v _ => v = .int .i64 r66].getD iQ (fun _ _ => True)) Try.mixed (by kernel_rfl) ?_ (by kernel_rfl) ?_ ?_
      · refine Vs_monoT _ ?_
        intro VQ hVQ vQ wQ1 wQ2 hQ1 hQ2
        simp only [List.mem_cons, List.not_mem_nil, or_false] at hVQ
        rcases hVQ with rfl | rfl | rfl | rfl | rfl | rfl | rfl | rfl
        · exact hQ1
        · exact hQ1
        · exact hQ1
        · exact hQ1
        · exact hQ1
        · exact hQ1
        · exact hQ1
        · exact hQ1
      · refine ⟨⟨rfl, ⟨rfl, trivial⟩, ?_⟩, ⟨rfl, ⟨rfl, trivial⟩, ?_⟩, ⟨rfl, ⟨rfl, trivial⟩, ?_⟩, ⟨rfl, ⟨rfl, trivial⟩, ?_⟩, ⟨rfl, ⟨rfl, trivial⟩, ?_⟩, ⟨rfl, trivial, ?_⟩, ⟨rfl, trivial, ?_⟩, ⟨rfl, trivial, ?_⟩, trivial⟩
        · intro w57 hE
          intro RR
          refine WL.move rfl rfl ?_
          exact WL.done ⟨_, rfl, rfl, rfl, (fun h => absurd h (by decide)), (fun j h => by cases h)⟩
        · intro w58 hE
          intro RR
          refine WL.move rfl rfl ?_
          exact WL.done ⟨_, rfl, rfl, rfl, (fun h => absurd h (by decide)), (fun j h => by cases h)⟩
        · intro w59 hE
          have hE := hE rfl
          have hS := hS.grow hE
          intro RR
          refine WL.loadV (cs := [.int .i64 Pf, .int .i64 Mf, .slice Af mf.length kf]) Try.el24 Try.agg24 rfl rfl (Own.vcells (hS.own (i := 1) rfl)) rfl ?_
          exact WL.done ⟨_, rfl, ext_refl _, rfl, (fun h => absurd h (by decide)), (fun j h => by cases h)⟩
        · intro w60 hE
          intro RR
          refine WL.move rfl rfl ?_
          exact WL.done ⟨_, rfl, rfl, rfl, (fun h => absurd h (by decide)), (fun j h => by cases h)⟩
        · intro w61 hE
          intro RR
          refine WL.move rfl rfl ?_
          exact WL.done ⟨_, rfl, rfl, rfl, (fun h => absurd h (by decide)), (fun j h => by cases h)⟩
        · intro w62 hE
          rintro _ rfl
          rintro _ rfl
          intro RR
          refine SL.index Try.underlying22 Try.el3 (hS.ro hp) rfl rfl o63 rfl ?_
          exact WL.done ⟨_, rfl, rfl, rfl, (fun h => absurd h (by decide)), (fun j h => by cases h)⟩
        · intro w64 hE
          have hE := hE rfl
          have hS := hS.grow hE
          rintro _ rfl
          intro RR
          refine WL.load Try.underlying3 rfl rfl (Rd.gi (hS.ro hp) o63) rfl ?_
          exact WL.done ⟨_, rfl, ext_refl _, rfl, (fun h => absurd h (by decide)), (fun j h => by cases h)⟩
        · intro w65 hE
          have hE := hE rfl
          have hS := hS.grow hE
          rintro _ rfl
          rintro _ rfl
          intro RR
          refine WL.call Try.func56 rfl Try.nm56 rfl rfl (calls_un (ok_rIn (hS.ro hf) o68)) ?_
          rintro _ w67 ⟨_, hGw67, hRww67, hNww67, r66q, rfl, rfl, he⟩
          subst he
          exact WL.done ⟨_, rfl, hGw67, rfl, (fun h => absurd h (by decide)), (fun j h => by cases h)⟩
      · intro vals w69 hT hVs hAp hCp
        have hS := hS.grow hT
        have hv0 : vals 0 = _ := hVs 0 (by decide)
        have hv1 : vals 1 = _ := hVs 1 (by decide)
        have hv2 : vals 2 = _ := hVs 2 (by decide)
        have hv3 : vals 3 = _ := hVs 3 (by decide)
        have hv4 : vals 4 = _ := hVs 4 (by decide)
        have hv5 : vals 5 = _ := hVs 5 (by decide)
        have hv6 : vals 6 = _ := hVs 6 (by decide)
        have hv7 : vals 7 = _ := hVs 7 (by decide)
        rw [show (List.filterMap (fun i => Option.map (fun t => (t, vals i)) (dstAt _ i)) (List.range _)) = [(31, .slice A44 z17.toNat z17.toNat), (32, .int .i64 z52), (33, .agg #[.int .i64 Pf, .int .i64 Mf, .slice Af mf.length kf]), (34, .slice Ap p.length kp), (35, .int .i64 z52), (36, .pointer (some ((adOf Ap).add z52.toNat))), (37, .int .i64 (gi p z52)), (38, .int .i64 r66)] from by
          show [(31, vals 0), (32, vals 1), (33, vals 2), (34, vals 3), (35, vals 4), (36, vals 5), (37, vals 6), (38, vals 7)] = _
          rw [hv0, hv1, hv2, hv3, hv4, hv5, hv6, hv7]]
        refine WA.step [8] (by decide +kernel) rfl ?_
        intro iQ hQ
        simp only [List.mem_cons, List.not_mem_nil, or_false] at hQ
        obtain rfl := hQ
        refine ⟨_, rfl, ?_⟩
        obtain ⟨o70, hv⟩ := hv
        refine SL.index Try.underlying22 Try.el3 (hS.rd (i := 0) rfl) rfl rfl o70 rfl ?_
        refine WL.done ?_
        refine WA.step [9] (by decide +kernel) rfl ?_
        intro iQ hQ
        simp only [List.mem_cons, List.not_mem_nil, or_false] at hQ
        obtain rfl := hQ
        refine ⟨_, rfl, ?_⟩
        refine SL.store (cs' := is (si x51 z52 r66)) 0 z52.toNat hS rfl Try.el3 rfl rfl rfl (is_lt (hS.rd (i := 0) rfl) o70) (is_set _ _ _) ?_
        intro w71 hS
        refine WL.done ?_
        refine WA.done (by decide +kernel) ?_
        refine W.region ?_
        refine WL.move rfl rfl ?_
        obtain ⟨o72, hv⟩ := hv
        refine WL.add (r := (z52 + (1 : Int))) rfl rfl (wr o72) rfl ?_
        refine WL.assign rfl rfl ?_
        refine WL.done ?_
        change St _ _ _ _ [.row 3 1 A44 z17.toNat z17.toNat (is (si x51 z52 r66)), .row 24 3 (some ⟨g11, 0, none⟩) 1 1 [.int .i64 Pf, .int .i64 Mf, .slice Af mf.length kf]] at hS
        exact ⟨(si x51 z52 r66, (z52 + (1 : Int))), ⟨rfl, rfl, rfl, rfl, rfl, rfl, trivial⟩, hv.2, rfl, hv.1, hS⟩
    · have hv := hv.2 (of_decide_eq_false c56)
      refine W.exit ?_
      refine W.seq ?_
      refine W.region ?_
      refine WL.move rfl rfl ?_
      refine WL.assign rfl rfl ?_
      refine WL.done ?_
      refine W.ret ?_
      have hm0 := (hS.rd (i := 0) rfl).ilen
      have hS := hS.relen (i := 0) rfl hm0.symm
      refine ⟨_, rfl, Fin.nil ?_⟩
      exact ⟨_, hS.ext, (hS.pick [0] rfl).rows, News.of (hS.pick [0] rfl).rows rfl, ⟨x51, A44, z17.toNat, (by first | (rw [hm0]; done) | (rw [hm0]; rfl)), rfl, hv⟩⟩

def V_rdeg (Pf : Int) (Mf : Int) (mf : List Int) (p : List Int) (Q : Int → Prop) : Prop :=
  V_rcanon Pf Mf mf p (fun x14 => (I64 (((x14.length : Nat) : Int) - (1 : Int))) ∧ (Q (((x14.length : Nat) : Int) - (1 : Int))))
theorem ok_rdeg {w : World} {Q : Int → Prop} {Pf : Int} {Mf : Int} {mf : List Int} {p : List Int} {Bf : Nat} {Af : Option Addr} {nf kf : Nat} (hf : Rd Bf w 1 Af nf kf (is mf)) {Bp : Nat} {Ap : Option Addr} {np kp : Nat} (hp : Rd Bp w 1 Ap np kp (is p)) (hv : V_rdeg Pf Mf mf p Q) :
    Calls Try.prog 38 #[.agg #[.int .i64 Pf, .int .i64 Mf, .slice Af nf kf], .slice Ap np kp] w fun e w' => ∃ v Qr, e = .returned v ∧ w.grownBy w' none ∧ Rows w.heap.size none w' Qr ∧ News w.heap.size Qr ∧ ∃ (r0 : Int), v = .int .i64 r0 ∧ Qr = [] ∧ Q r0 := by
  have hnf := hf.ilen
  subst hnf
  have hnp := hp.ilen
  subst hnp
  refine calls_swap ?_
  refine calls_of_W (vs := [.agg #[.int .i64 Pf, .int .i64 Mf, .slice Af mf.length kf], .slice Ap p.length kp]) [4] Try.func38 rfl rfl rfl rfl ?_
  have hS := St.start w
  unfold V_rdeg at hv
  refine W.seq ?_
  refine W.region ?_
  refine SL.box (z := 3) (cs := [.int .i64 Pf, .int .i64 Mf, .slice Af mf.length kf]) hS rfl rfl rfl rfl ?_
  intro g11 w12 hS
  refine WL.assign rfl rfl ?_
  refine WL.done ?_
  refine W.seq ?_
  refine W.region ?_
  refine WL.loadV (cs := [.int .i64 Pf, .int .i64 Mf, .slice Af mf.length kf]) Try.el24 Try.agg24 rfl rfl (Own.vcells (hS.own (i := 0) rfl)) rfl ?_
  refine WL.move rfl rfl ?_
  refine SL.call hS (ok_rcanon (hS.ro hf) (hS.ro hp) hv) Try.func24 rfl Try.nm24 rfl rfl ?_
  rintro _ _ w13 ⟨x14, A15, k16, rfl, rfl, hv⟩ hGw13 hS
  change St _ _ _ _ [.row 3 1 A15 x14.length k16 (is x14), .row 24 3 (some ⟨g11, 0, none⟩) 1 1 [.int .i64 Pf, .int .i64 Mf, .slice Af mf.length kf]] at hS
  refine WL.len Try.underlying22 rfl rfl ?_
  obtain ⟨o18, hv⟩ := hv
  refine WL.sub (r := (((x14.length : Nat) : Int) - (1 : Int))) rfl rfl (wr o18) rfl ?_
  refine WL.assign rfl rfl ?_
  refine WL.done ?_
  refine W.ret ?_
  refine ⟨_, rfl, Fin.nil ?_⟩
  exact ⟨_, hS.ext, (hS.pick [] rfl).rows, News.of (hS.pick [] rfl).rows rfl, ⟨(((x14.length : Nat) : Int) - (1 : Int)), rfl, rfl, hv⟩⟩

def V_rat (Pf : Int) (Mf : Int) (mf : List Int) (p : List Int) (i : Int) (Q : Int → Prop) : Prop :=
  ((i < (0 : Int)) → (Q (0 : Int))) ∧ (¬ (i < (0 : Int)) → (((((p.length : Nat) : Int) ≤ i) → (Q (0 : Int))) ∧ (¬ (((p.length : Nat) : Int) ≤ i) → ((0 ≤ i ∧ i < (p.length : Nat)) ∧ (∃ (r22 : Int), V_rIn Pf Mf mf (gi p i) (fun q => q = r22) ∧ Q r22)))))
theorem ok_rat {w : World} {Q : Int → Prop} {Pf : Int} {Mf : Int} {mf : List Int} {p : List Int} {i : Int} {Bf : Nat} {Af : Option Addr} {nf kf : Nat} (hf : Rd Bf w 1 Af nf kf (is mf)) {Bp : Nat} {Ap : Option Addr} {np kp : Nat} (hp : Rd Bp w 1 Ap np kp (is p)) (hv : V_rat Pf Mf mf p i Q) :
    Calls Try.prog 58 #[.agg #[.int .i64 Pf, .int .i64 Mf, .slice Af nf kf], .slice Ap np kp, .int .i64 i] w fun e w' => ∃ v Qr, e = .returned v ∧ w.grownBy w' none ∧ Rows w.heap.size none w' Qr ∧ News w.heap.size Qr ∧ ∃ (r0 : Int), v = .int .i64 r0 ∧ Qr = [] ∧ Q r0 := by
  have hnf := hf.ilen
  subst hnf
  have hnp := hp.ilen
  subst hnp
  refine calls_swap ?_
  refine calls_of_W (vs := [.agg #[.int .i64 Pf, .int .i64 Mf, .slice Af mf.length kf], .slice Ap p.length kp, .int .i64 i]) [6] Try.func58 rfl rfl rfl rfl ?_
  have hS := St.start w
  unfold V_rat at hv
  refine W.seq ?_
  refine W.region ?_
  refine SL.box (z := 3) (cs := [.int .i64 Pf, .int .i64 Mf, .slice Af mf.length kf]) hS rfl rfl rfl rfl ?_
  intro g11 w12 hS
  refine WL.assign rfl rfl ?_
  refine WL.done ?_
  refine W.seq ?_
  refine W.seq ?_
  refine W.region ?_
  refine WL.move rfl rfl ?_
  refine WL.lssD rfl rfl rfl ?_
  refine WL.move rfl rfl ?_
  by_cases g13 : i < (0 : Int)
  · have hv := hv.1 g13
    rw [decide_eq_true g13]
    refine WL.pass rfl rfl rfl ?_
    refine WL.pass rfl rfl rfl ?_
    refine WL.pass rfl rfl rfl ?_
    refine WL.pass rfl rfl rfl ?_
    refine WL.pick rfl rfl rfl ?_
    refine WL.done ?_
    refine W.condT rfl ?_
    refine W.seq ?_
    refine W.region ?_
    refine WL.assign rfl rfl ?_
    refine WL.done ?_
    refine W.ret ?_
    refine ⟨_, rfl, Fin.nil ?_⟩
    exact ⟨_, hS.ext, (hS.pick [] rfl).rows, News.of (hS.pick [] rfl).rows rfl, ⟨(0 : Int), rfl, rfl, hv⟩⟩
  · have hv := hv.2 g13
    rw [decide_eq_false g13]
    refine WL.take rfl ?_
    refine WL.move rfl rfl ?_
    refine WL.take rfl ?_
    refine WL.move rfl rfl ?_
    refine WL.take rfl ?_
    refine WL.len Try.underlying22 rfl rfl ?_
    refine WL.take rfl ?_
    refine WL.geqD rfl rfl rfl ?_
    refine WL.pick rfl rfl rfl ?_
    refine WL.done ?_
    refine W.cond2 rfl (fun c14 => ?_) (fun c14 => ?_)
    · have hv := hv.1 (of_decide_eq_true c14)
      refine W.seq ?_
      refine W.region ?_
      refine WL.assign rfl rfl ?_
      refine WL.done ?_
      refine W.ret ?_
      refine ⟨_, rfl, Fin.nil ?_⟩
      exact ⟨_, hS.ext, (hS.pick [] rfl).rows, News.of (hS.pick [] rfl).rows rfl, ⟨(0 : Int), rfl, rfl, hv⟩⟩
    · have hv := hv.2 (of_decide_eq_false c14)
      refine W.skip ?_
      refine W.seq ?_
      obtain ⟨o19, hv⟩ := hv
      obtain ⟨r22, o24, hv⟩ := hv
      have hS0 := hS
      refine W.drawX 7 (fun _ => false) (fun _ => none) [⟨[], [3], false⟩, ⟨[], [1], true⟩, ⟨[], [2], true⟩, ⟨[1, 2], [], true⟩, ⟨[3], [], false⟩, ⟨[0, 4], [], false⟩, ⟨[5], [], true⟩] [[(3, .pointer (some ⟨g11, 0, none⟩))], [(1, .slice Ap p.length kp)], [(2, .int .i64 i)], [], [], [], []] (fun iQ => [fun v _ => v = .agg #[.int .i64 Pf, .int .i64 Mf, .slice Af mf.length kf], fun v _ => v = .slice Ap p.length kp, fun v _ => v = .int .i64 i, fun v _ => v = .pointer (some ((adOf Ap).add i.toNat)), fun v _ => v = .int .i64 (gi p i), fun v _ => v = .int .i64 r22, fun v _ => v = .int .i64 r22].getD iQ (fun _ _ => True)) Try.mixed (by kernel_rfl) ?_ (by kernel_rfl) ?_ ?_
      · refine Vs_monoT _ ?_
        intro VQ hVQ vQ wQ1 wQ2 hQ1 hQ2
        simp only [List.mem_cons, List.not_mem_nil, or_false] at hVQ
        rcases hVQ with rfl | rfl | rfl | rfl | rfl | rfl | rfl
        · exact hQ1
        · exact hQ1
        · exact hQ1
        · exact hQ1
        · exact hQ1
        · exact hQ1
        · exact hQ1
      · refine ⟨⟨rfl, ⟨rfl, trivial⟩, ?_⟩, ⟨rfl, ⟨rfl, trivial⟩, ?_⟩, ⟨rfl, ⟨rfl, trivial⟩, ?_⟩, ⟨rfl, trivial, ?_⟩, ⟨rfl, trivial, ?_⟩, ⟨rfl, trivial, ?_⟩, ⟨rfl, trivial, ?_⟩, trivial⟩
        · intro w15 hE
          have hE := hE rfl
          have hS := hS.grow hE
          intro RR
          refine WL.loadV (cs := [.int .i64 Pf, .int .i64 Mf, .slice Af mf.length kf]) Try.el24 Try.agg24 rfl rfl (Own.vcells (hS.own (i := 0) rfl)) rfl ?_
          exact WL.done ⟨_, rfl, ext_refl _, rfl, (fun h => absurd h (by decide)), (fun j h => by cases h)⟩
        · intro w16 hE
          intro RR
          refine WL.move rfl rfl ?_
          exact WL.done ⟨_, rfl, rfl, rfl, (fun h => absurd h (by decide)), (fun j h => by cases h)⟩
        · intro w17 hE
          intro RR
          refine WL.move rfl rfl ?_
          exact WL.done ⟨_, rfl, rfl, rfl, (fun h => absurd h (by decide)), (fun j h => by cases h)⟩
        · intro w18 hE
          rintro _ rfl
          rintro _ rfl
          intro RR
          refine SL.index Try.underlying22 Try.el3 (hS.ro hp) rfl rfl o19 rfl ?_
          exact WL.done ⟨_, rfl, rfl, rfl, (fun h => absurd h (by decide)), (fun j h => by cases h)⟩
        · intro w20 hE
          have hE := hE rfl
          have hS := hS.grow hE
          rintro _ rfl
          intro RR
          refine WL.load Try.underlying3 rfl rfl (Rd.gi (hS.ro hp) o19) rfl ?_
          exact WL.done ⟨_, rfl, ext_refl _, rfl, (fun h => absurd h (by decide)), (fun j h => by cases h)⟩
        · intro w21 hE
          have hE := hE rfl
          have hS := hS.grow hE
          rintro _ rfl
          rintro _ rfl
          intro RR
          refine WL.call Try.func56 rfl Try.nm56 rfl rfl (calls_un (ok_rIn (hS.ro hf) o24)) ?_
          rintro _ w23 ⟨_, hGw23, hRww23, hNww23, r22q, rfl, rfl, he⟩
          subst he
          exact WL.done ⟨_, rfl, hGw23, rfl, (fun h => absurd h (by decide)), (fun j h => by cases h)⟩
        · intro w25 hE
          rintro _ rfl
          intro RR
          refine WL.assign rfl rfl ?_
          exact WL.done ⟨_, rfl, rfl, rfl, (fun h => absurd h (by decide)), (fun j h => by cases h)⟩
      · intro vals w26 hT hVs hAp hCp
        have hS := hS.grow hT
        have hv0 : vals 0 = _ := hVs 0 (by decide)
        have hv1 : vals 1 = _ := hVs 1 (by decide)
        have hv2 : vals 2 = _ := hVs 2 (by decide)
        have hv3 : vals 3 = _ := hVs 3 (by decide)
        have hv4 : vals 4 = _ := hVs 4 (by decide)
        have hv5 : vals 5 = _ := hVs 5 (by decide)
        have hv6 : vals 6 = _ := hVs 6 (by decide)
        rw [show (List.filterMap (fun i => Option.map (fun t => (t, vals i)) (dstAt _ i)) (List.range _)) = [(15, .agg #[.int .i64 Pf, .int .i64 Mf, .slice Af mf.length kf]), (16, .slice Ap p.length kp), (17, .int .i64 i), (18, .pointer (some ((adOf Ap).add i.toNat))), (19, .int .i64 (gi p i)), (20, .int .i64 r22), (6, .int .i64 r22)] from by
          show [(15, vals 0), (16, vals 1), (17, vals 2), (18, vals 3), (19, vals 4), (20, vals 5), (6, vals 6)] = _
          rw [hv0, hv1, hv2, hv3, hv4, hv5, hv6]]
        refine WA.done (by decide +kernel) ?_
        refine W.ret ?_
        refine ⟨_, rfl, Fin.nil ?_⟩
        exact ⟨_, hS.ext, (hS.pick [] rfl).rows, News.of (hS.pick [] rfl).rows rfl, ⟨r22, rfl, rfl, hv⟩⟩

def V_rpadd (Pf : Int) (Mf : Int) (mf : List Int) (p : List Int) (t : List Int) (Q : List Int → Prop) : Prop :=
  (0 ≤ (max ((p.length : Nat) : Int) ((t.length : Nat) : Int)) ∧ (max ((p.length : Nat) : Int) ((t.length : Nat) : Int)) * 8 ≤ 281474976710656 ∧ (max ((p.length : Nat) : Int) ((t.length : Nat) : Int)) ≤ 281474976710656) ∧ (∃ (I23 : List Int → Int → Prop) (μ24 : List Int → Int → Nat), I23 (List.replicate (max ((p.length : Nat) : Int) ((t.length : Nat) : Int)).toNat (0 : Int)) (0 : Int) ∧ ∀ (x21 : List Int) (z22 : Int), (I23 x21 z22 → (((z22 < (((max ((p.length : Nat) : Int) ((t.length : Nat) : Int)).toNat : Nat) : Int)) → (∃ (r34 : Int), V_rat Pf Mf mf p z22 (fun q => q = r34) ∧ (∃ (r41 : Int), V_rat Pf Mf mf t z22 (fun q => q = r41) ∧ (∃ (r45 : Int), V_rAdd Pf Mf mf r34 r41 (fun q => q = r45) ∧ ((0 ≤ z22 ∧ z22 < ((max ((p.length : Nat) : Int) ((t.length : Nat) : Int)).toNat : Nat)) ∧ ((I64 (z22 + (1 : Int))) ∧ (I23 (si x21 z22 r45) (z22 + (1 : Int)) ∧ μ24 (si x21 z22 r45) (z22 + (1 : Int)) < μ24 x21 z22))))))) ∧ (¬ (z22 < (((max ((p.length : Nat) : Int) ((t.length : Nat) : Int)).toNat : Nat) : Int)) → (V_rcanon Pf Mf mf x21 (fun x53 => Q x53))))))
theorem ok_rpadd {w : World} {Q : List Int → Prop} {Pf : Int} {Mf : Int} {mf : List Int} {p : List Int} {t : List Int} {Bf : Nat} {Af : Option Addr} {nf kf : Nat} (hf : Rd Bf w 1 Af nf kf (is mf)) {Bp : Nat} {Ap : Option Addr} {np kp : Nat} (hp : Rd Bp w 1 Ap np kp (is p)) {Bt : Nat} {At : Option Addr} {nt kt : Nat} (ht : Rd Bt w 1 At nt kt (is t)) (hv : V_rpadd Pf Mf mf p t Q) :
    Calls Try.prog 28 #[.agg #[.int .i64 Pf, .int .i64 Mf, .slice Af nf kf], .slice Ap np kp, .slice At nt kt] w fun e w' => ∃ v Qr, e = .returned v ∧ w.grownBy w' none ∧ Rows w.heap.size none w' Qr ∧ News w.heap.size Qr ∧ ∃ (r0 : List Int) (Ar0 : Option Addr) (cr0 : Nat), v = .slice Ar0 r0.length cr0 ∧ Qr = [.row 3 1 Ar0 r0.length cr0 (is r0)] ∧ Q r0 := by
  have hnf := hf.ilen
  subst hnf
  have hnp := hp.ilen
  subst hnp
  have hnt := ht.ilen
  subst hnt
  refine calls_swap ?_
  refine calls_of_W (vs := [.agg #[.int .i64 Pf, .int .i64 Mf, .slice Af mf.length kf], .slice Ap p.length kp, .slice At t.length kt]) [6] Try.func28 rfl rfl rfl rfl ?_
  have hS := St.start w
  unfold V_rpadd at hv
  refine W.seq ?_
  refine W.region ?_
  refine SL.box (z := 3) (cs := [.int .i64 Pf, .int .i64 Mf, .slice Af mf.length kf]) hS rfl rfl rfl rfl ?_
  intro g11 w12 hS
  refine WL.assign rfl rfl ?_
  refine WL.done ?_
  refine W.seq ?_
  refine W.region ?_
  refine WL.move rfl rfl ?_
  refine WL.len Try.underlying22 rfl rfl ?_
  refine WL.move rfl rfl ?_
  refine WL.len Try.underlying22 rfl rfl ?_
  refine WL.max2 (r := (max ((p.length : Nat) : Int) ((t.length : Nat) : Int))) rfl rfl rfl rfl ?_
  obtain ⟨o13, hv⟩ := hv
  refine SL.make (J := (max ((p.length : Nat) : Int) ((t.length : Nat) : Int))) hS Try.underlying22 Try.el3 rfl rfl o13 (made_is _) rfl ?_
  intro A14 w15 hS
  refine WL.assign rfl rfl ?_
  refine WL.done ?_
  refine W.seq ?_
  refine W.seq ?_
  refine W.region ?_
  refine WL.assign rfl rfl ?_
  refine WL.done ?_
  refine W.block ?_
  obtain ⟨I23, μ24, hv, hk57⟩ := hv
  change St _ _ _ _ [.row 3 1 A14 ((max ((p.length : Nat) : Int) ((t.length : Nat) : Int)).toNat) ((max ((p.length : Nat) : Int) ((t.length : Nat) : Int)).toNat) (is (List.replicate (max ((p.length : Nat) : Int) ((t.length : Nat) : Int)).toNat (0 : Int))), .row 24 3 (some ⟨g11, 0, none⟩) 1 1 [.int .i64 Pf, .int .i64 Mf, .slice Af mf.length kf]] at hS
  refine W.loop (σ := List Int × Int) (fun q w1 => match q with | (x21, z22) => I23 x21 z22 ∧ St TT w none w1 [.row 3 1 A14 ((max ((p.length : Nat) : Int) ((t.length : Nat) : Int)).toNat) ((max ((p.length : Nat) : Int) ((t.length : Nat) : Int)).toNat) (is x21), .row 24 3 (some ⟨g11, 0, none⟩) 1 1 [.int .i64 Pf, .int .i64 Mf, .slice Af mf.length kf]]) (fun q => match q with | (x21, z22) => [(1, .slice Ap p.length kp), (2, .slice At t.length kt), (3, .pointer (some ⟨g11, 0, none⟩)), (6, .slice none 0 0), (7, .slice A14 ((max ((p.length : Nat) : Int) ((t.length : Nat) : Int)).toNat) ((max ((p.length : Nat) : Int) ((t.length : Nat) : Int)).toNat)), (8, .int .i64 z22)]) (fun q => match q with | (x21, z22) => μ24 x21 z22) (List.replicate (max ((p.length : Nat) : Int) ((t.length : Nat) : Int)).toNat (0 : Int), (0 : Int)) ⟨hv, hS⟩ ⟨rfl, rfl, rfl, rfl, rfl, rfl, trivial⟩ ?_
  rintro ⟨x21, z22⟩ w25 ⟨hv, hS⟩
  have hv := hk57 x21 z22 hv
  refine W.seq ?_
  refine W.seq ?_
  refine W.region ?_
  refine WL.move rfl rfl ?_
  refine WL.move rfl rfl ?_
  refine WL.len Try.underlying22 rfl rfl ?_
  refine WL.lssD rfl rfl rfl ?_
  refine WL.done ?_
  refine W.cond2 rfl (fun c26 => ?_) (fun c26 => ?_)
  · have hv := hv.1 (of_decide_eq_true c26)
    refine W.skip ?_
    refine W.seq ?_
    refine W.block ?_
    obtain ⟨r34, o36, hv⟩ := hv
    obtain ⟨r41, o43, hv⟩ := hv
    obtain ⟨r45, o47, hv⟩ := hv
    have hS0 := hS
    refine W.drawX 12 (fun _ => false) (fun _ => none) [⟨[], [7], true⟩, ⟨[], [8], true⟩, ⟨[], [3], false⟩, ⟨[], [3], false⟩, ⟨[], [1], true⟩, ⟨[], [8], true⟩, ⟨[3, 4, 5], [], false⟩, ⟨[], [3], false⟩, ⟨[], [2], true⟩, ⟨[], [8], true⟩, ⟨[7, 8, 9], [], false⟩, ⟨[2, 6, 10], [], false⟩] [[(7, .slice A14 ((max ((p.length : Nat) : Int) ((t.length : Nat) : Int)).toNat) ((max ((p.length : Nat) : Int) ((t.length : Nat) : Int)).toNat))], [(8, .int .i64 z22)], [(3, .pointer (some ⟨g11, 0, none⟩))], [(3, .pointer (some ⟨g11, 0, none⟩))], [(1, .slice Ap p.length kp)], [(8, .int .i64 z22)], [], [(3, .pointer (some ⟨g11, 0, none⟩))], [(2, .slice At t.length kt)], [(8, .int .i64 z22)], [], []] (fun iQ => [fun v _ => v = .slice A14 ((max ((p.length : Nat) : Int) ((t.length : Nat) : Int)).toNat) ((max ((p.length : Nat) : Int) ((t.length : Nat) : Int)).toNat), fun v _ => v = .int .i64 z22, fun v _ => v = .agg #[.int .i64 Pf, .int .i64 Mf, .slice Af mf.length kf], fun v _ => v = .agg #[.int .i64 Pf, .int .i64 Mf, .slice Af mf.length kf], fun v _ => v = .slice Ap p.length kp, fun v _ => v = .int .i64 z22, fun v _ => v = .int .i64 r34, fun v _ => v = .agg #[.int .i64 Pf, .int .i64 Mf, .slice Af mf.length kf], fun v _ => v = .slice At t.length kt, fun v _ => v = .int .i64 z22, fun v _ => v = .int .i64 r41, fun v _ => v = .int .i64 r45].getD iQ (fun _ _ => True)) Try.mixed (by kernel_rfl) ?_ (by kernel_rfl) ?_ ?_
    · refine Vs_monoT _ ?_
      intro VQ hVQ vQ wQ1 wQ2 hQ1 hQ2
      simp only [List.mem_cons, List.not_mem_nil, or_false] at hVQ
      rcases hVQ with rfl | rfl | rfl | rfl | rfl | rfl | rfl | rfl | rfl | rfl | rfl | rfl
      · exact hQ1
      · exact hQ1
      · exact hQ1
      · exact hQ1
      · exact hQ1
      · exact hQ1
      · exact hQ1
      · exact hQ1
      · exact hQ1
      · exact hQ1
      · exact hQ1
      · exact hQ1
    · refine ⟨⟨rfl, ⟨rfl, trivial⟩, ?_⟩, ⟨rfl, ⟨rfl, trivial⟩, ?_⟩, ⟨rfl, ⟨rfl, trivial⟩, ?_⟩, ⟨rfl, ⟨rfl, trivial⟩, ?_⟩, ⟨rfl, ⟨rfl, trivial⟩, ?_⟩, ⟨rfl, ⟨rfl, trivial⟩, ?_⟩, ⟨rfl, trivial, ?_⟩, ⟨rfl, ⟨rfl, trivial⟩, ?_⟩, ⟨rfl, ⟨rfl, trivial⟩, ?_⟩, ⟨rfl, ⟨rfl, trivial⟩, ?_⟩, ⟨rfl, trivial, ?_⟩, ⟨rfl, trivial, ?_⟩, trivial⟩
      · intro w27 hE
        intro RR
        refine WL.move rfl rfl ?_
        exact WL.done ⟨_, rfl, rfl, rfl, (fun h => absurd h (by decide)), (fun j h => by cases h)⟩
      · intro w28 hE
        intro RR
        refine WL.move rfl rfl ?_
        exact WL.done ⟨_, rfl, rfl, rfl, (fun h => absurd h (by decide)), (fun j h => by cases h)⟩
      · intro w29 hE
        have hE := hE rfl
        have hS := hS.grow hE
        intro RR
        refine WL.loadV (cs := [.int .i64 Pf, .int .i64 Mf, .slice Af mf.length kf]) Try.el24 Try.agg24 rfl rfl (Own.vcells (hS.own (i := 1) rfl)) rfl ?_
        exact WL.done ⟨_, rfl, ext_refl _, rfl, (fun h => absurd h (by decide)), (fun j h => by cases h)⟩
      · intro w30 hE
        have hE := hE rfl
        have hS := hS.grow hE
        intro RR
        refine WL.loadV (cs := [.int .i64 Pf, .int .i64 Mf, .slice Af mf.length kf]) Try.el24 Try.agg24 rfl rfl (Own.vcells (hS.own (i := 1) rfl)) rfl ?_
        exact WL.done ⟨_, rfl, ext_refl _, rfl, (fun h => absurd h (by decide)), (fun j h => by cases h)⟩
      · intro w31 hE
        intro RR
        refine WL.move rfl rfl ?_
        exact WL.done ⟨_, rfl, rfl, rfl, (fun h => absurd h (by decide)), (fun j h => by cases h)⟩
      · intro w32 hE
        intro RR
        refine WL.move rfl rfl ?_
        exact WL.done ⟨_, rfl, rfl, rfl, (fun h => absurd h (by decide)), (fun j h => by cases h)⟩
      · intro w33 hE
        have hE := hE rfl
        have hS := hS.grow hE
        rintro _ rfl
        rintro _ rfl
        rintro _ rfl
        intro RR
        refine WL.call Try.func58 rfl Try.nm58 rfl rfl (calls_un (ok_rat (hS.ro hf) (hS.ro hp) o36)) ?_
        rintro _ w35 ⟨_, hGw35, hRww35, hNww35, r34q, rfl, rfl, he⟩
        subst he
        exact WL.done ⟨_, rfl, hGw35, rfl, (fun h => absurd h (by decide)), (fun j h => by cases h)⟩
      · intro w37 hE
        have hE := hE rfl
        have hS := hS.grow hE
        intro RR
        refine WL.loadV (cs := [.int .i64 Pf, .int .i64 Mf, .slice Af mf.length kf]) Try.el24 Try.agg24 rfl rfl (Own.vcells (hS.own (i := 1) rfl)) rfl ?_
        exact WL.done ⟨_, rfl, ext_refl _, rfl, (fun h => absurd h (by decide)), (fun j h => by cases h)⟩
      · intro w38 hE
        intro RR
        refine WL.move rfl rfl ?_
        exact WL.done ⟨_, rfl, rfl, rfl, (fun h => absurd h (by decide)), (fun j h => by cases h)⟩
      · intro w39 hE
        intro RR
        refine WL.move rfl rfl ?_
        exact WL.done ⟨_, rfl, rfl, rfl, (fun h => absurd h (by decide)), (fun j h => by cases h)⟩
      · intro w40 hE
        have hE := hE rfl
        have hS := hS.grow hE
        rintro _ rfl
        rintro _ rfl
        rintro _ rfl
        intro RR
        refine WL.call Try.func58 rfl Try.nm58 rfl rfl (calls_un (ok_rat (hS.ro hf) (hS.ro ht) o43)) ?_
        rintro _ w42 ⟨_, hGw42, hRww42, hNww42, r41q, rfl, rfl, he⟩
        subst he
        exact WL.done ⟨_, rfl, hGw42, rfl, (fun h => absurd h (by decide)), (fun j h => by cases h)⟩
      · intro w44 hE
        have hE := hE rfl
        have hS := hS.grow hE
        rintro _ rfl
        rintro _ rfl
        rintro _ rfl
        intro RR
        refine WL.call Try.func46 rfl Try.nm46 rfl rfl (calls_un (ok_rAdd (hS.ro hf) o47)) ?_
        rintro _ w46 ⟨_, hGw46, hRww46, hNww46, r45q, rfl, rfl, he⟩
        subst he
        exact WL.done ⟨_, rfl, hGw46, rfl, (fun h => absurd h (by decide)), (fun j h => by cases h)⟩
    · intro vals w48 hT hVs hAp hCp
      have hS := hS.grow hT
      have hv0 : vals 0 = _ := hVs 0 (by decide)
      have hv1 : vals 1 = _ := hVs 1 (by decide)
      have hv2 : vals 2 = _ := hVs 2 (by decide)
      have hv3 : vals 3 = _ := hVs 3 (by decide)
      have hv4 : vals 4 = _ := hVs 4 (by decide)
      have hv5 : vals 5 = _ := hVs 5 (by decide)
      have hv6 : vals 6 = _ := hVs 6 (by decide)
      have hv7 : vals 7 = _ := hVs 7 (by decide)
      have hv8 : vals 8 = _ := hVs 8 (by decide)
      have hv9 : vals 9 = _ := hVs 9 (by decide)
      have hv10 : vals 10 = _ := hVs 10 (by decide)
      have hv11 : vals 11 = _ := hVs 11 (by decide)
      rw [show (List.filterMap (fun i => Option.map (fun t => (t, vals i)) (dstAt _ i)) (List.range _)) = [(21, .slice A14 ((max ((p.length : Nat) : Int) ((t.length : Nat) : Int)).toNat) ((max ((p.length : Nat) : Int) ((t.length : Nat) : Int)).toNat)), (22, .int .i64 z22), (23, .agg #[.int .i64 Pf, .int .i64 Mf, .slice Af mf.length kf]), (24, .agg #[.int .i64 Pf, .int .i64 Mf, .slice Af mf.length kf]), (25, .slice Ap p.length kp), (26, .int .i64 z22), (27, .int .i64 r34), (28, .agg #[.int .i64 Pf, .int .i64 Mf, .slice Af mf.length kf]), (29, .slice At t.length kt), (30, .int .i64 z22), (31, .int .i64 r41), (32, .int .i64 r45)] from by
        show [(21, vals 0), (22, vals 1), (23, vals 2), (24, vals 3), (25, vals 4), (26, vals 5), (27, vals 6), (28, vals 7), (29, vals 8), (30, vals 9), (31, vals 10), (32, vals 11)] = _
        rw [hv0, hv1, hv2, hv3, hv4, hv5, hv6, hv7, hv8, hv9, hv10, hv11]]
      refine WA.step [12] (by decide +kernel) rfl ?_
      intro iQ hQ
      simp only [List.mem_cons, List.not_mem_nil, or_false] at hQ
      obtain rfl := hQ
      refine ⟨_, rfl, ?_⟩
      obtain ⟨o49, hv⟩ := hv
      refine SL.index Try.underlying22 Try.el3 (hS.rd (i := 0) rfl) rfl rfl o49 rfl ?_
      refine WL.done ?_
      refine WA.step [13] (by decide +kernel) rfl ?_
      intro iQ hQ
      simp only [List.mem_cons, List.not_mem_nil, or_false] at hQ
      obtain rfl := hQ
      refine ⟨_, rfl, ?_⟩
      refine SL.store (cs' := is (si x21 z22 r45)) 0 z22.toNat hS rfl Try.el3 rfl rfl rfl (is_lt (hS.rd (i := 0) rfl) o49) (is_set _ _ _) ?_
      intro w50 hS
      refine WL.done ?_
      refine WA.done (by decide +kernel) ?_
      refine W.region ?_
      refine WL.move rfl rfl ?_
      obtain ⟨o51, hv⟩ := hv
      refine WL.add (r := (z22 + (1 : Int))) rfl rfl (wr o51) rfl ?_
      refine WL.assign rfl rfl ?_
      refine WL.done ?_
      change St _ _ _ _ [.row 3 1 A14 ((max ((p.length : Nat) : Int) ((t.length : Nat) : Int)).toNat) ((max ((p.length : Nat) : Int) ((t.length : Nat) : Int)).toNat) (is (si x21 z22 r45)), .row 24 3 (some ⟨g11, 0, none⟩) 1 1 [.int .i64 Pf, .int .i64 Mf, .slice Af mf.length kf]] at hS
      exact ⟨(si x21 z22 r45, (z22 + (1 : Int))), ⟨rfl, rfl, rfl, rfl, rfl, rfl, trivial⟩, hv.2, rfl, hv.1, hS⟩
  · have hv := hv.2 (of_decide_eq_false c26)
    refine W.exit ?_
    refine W.seq ?_
    refine W.region ?_
    refine WL.loadV (cs := [.int .i64 Pf, .int .i64 Mf, .slice Af mf.length kf]) Try.el24 Try.agg24 rfl rfl (Own.vcells (hS.own (i := 1) rfl)) rfl ?_
    refine WL.move rfl rfl ?_
    refine SL.call hS (ok_rcanon (hS.ro hf) (hS.rd (i := 0) rfl) hv) Try.func24 rfl Try.nm24 rfl rfl ?_
    rintro _ _ w52 ⟨x53, A54, k55, rfl, rfl, hv⟩ hGw52 hS
    change St _ _ _ _ [.row 3 1 A54 x53.length k55 (is x53), .row 3 1 A14 ((max ((p.length : Nat) : Int) ((t.length : Nat) : Int)).toNat) ((max ((p.length : Nat) : Int) ((t.length : Nat) : Int)).toNat) (is x21), .row 24 3 (some ⟨g11, 0, none⟩) 1 1 [.int .i64 Pf, .int .i64 Mf, .slice Af mf.length kf]] at hS
    refine WL.assign rfl rfl ?_
    refine WL.done ?_
    refine W.ret ?_
    refine ⟨_, rfl, Fin.nil ?_⟩
    exact ⟨_, hS.ext, (hS.pick [0] rfl).rows, News.of (hS.pick [0] rfl).rows rfl, ⟨x53, A54, k55, rfl, rfl, hv⟩⟩

def V_rpscale (Pf : Int) (Mf : Int) (mf : List Int) (a : Int) (p : List Int) (Q : List Int → Prop) : Prop :=
  (0 ≤ ((p.length : Nat) : Int) ∧ ((p.length : Nat) : Int) * 8 ≤ 281474976710656 ∧ ((p.length : Nat) : Int) ≤ 281474976710656) ∧ (∃ (I23 : List Int → Int → Prop) (μ24 : List Int → Int → Nat), I23 (List.replicate ((p.length : Nat) : Int).toNat (0 : Int)) (0 : Int) ∧ ∀ (x21 : List Int) (z22 : Int), (I23 x21 z22 → (((z22 < ((p.length : Nat) : Int)) → ((0 ≤ z22 ∧ z22 < (p.length : Nat)) ∧ (∃ (r37 : Int), V_rMul Pf Mf mf a (gi p z22) (fun q => q = r37) ∧ ((0 ≤ z22 ∧ z22 < (((p.length : Nat) : Int).toNat : Nat)) ∧ ((I64 (z22 + (1 : Int))) ∧ (I23 (si x21 z22 r37) (z22 + (1 : Int)) ∧ μ24 (si x21 z22 r37) (z22 + (1 : Int)) < μ24 x21 z22)))))) ∧ (¬ (z22 < ((p.length : Nat) : Int)) → (V_rcanon Pf Mf mf x21 (fun x45 => Q x45))))))
theorem ok_rpscale {w : World} {Q : List Int → Prop} {Pf : Int} {Mf : Int} {mf : List Int} {a : Int} {p : List Int} {Bf : Nat} {Af : Option Addr} {nf kf : Nat} (hf : Rd Bf w 1 Af nf kf (is mf)) {Bp : Nat} {Ap : Option Addr} {np kp : Nat} (hp : Rd Bp w 1 Ap np kp (is p)) (hv : V_rpscale Pf Mf mf a p Q) :
    Calls Try.prog 34 #[.agg #[.int .i64 Pf, .int .i64 Mf, .slice Af nf kf], .int .i64 a, .slice Ap np kp] w fun e w' => ∃ v Qr, e = .returned v ∧ w.grownBy w' none ∧ Rows w.heap.size none w' Qr ∧ News w.heap.size Qr ∧ ∃ (r0 : List Int) (Ar0 : Option Addr) (cr0 : Nat), v = .slice Ar0 r0.length cr0 ∧ Qr = [.row 3 1 Ar0 r0.length cr0 (is r0)] ∧ Q r0 := by
  have hnf := hf.ilen
  subst hnf
  have hnp := hp.ilen
  subst hnp
  refine calls_swap ?_
  refine calls_of_W (vs := [.agg #[.int .i64 Pf, .int .i64 Mf, .slice Af mf.length kf], .int .i64 a, .slice Ap p.length kp]) [6] Try.func34 rfl rfl rfl rfl ?_
  have hS := St.start w
  unfold V_rpscale at hv
  refine W.seq ?_
  refine W.region ?_
  refine SL.box (z := 3) (cs := [.int .i64 Pf, .int .i64 Mf, .slice Af mf.length kf]) hS rfl rfl rfl rfl ?_
  intro g11 w12 hS
  refine WL.assign rfl rfl ?_
  refine WL.done ?_
  refine W.seq ?_
  refine W.region ?_
  refine WL.move rfl rfl ?_
  refine WL.len Try.underlying22 rfl rfl ?_
  obtain ⟨o13, hv⟩ := hv
  refine SL.make (J := ((p.length : Nat) : Int)) hS Try.underlying22 Try.el3 rfl rfl o13 (made_is _) rfl ?_
  intro A14 w15 hS
  refine WL.assign rfl rfl ?_
  refine WL.done ?_
  refine W.seq ?_
  refine W.seq ?_
  refine W.region ?_
  refine WL.assign rfl rfl ?_
  refine WL.done ?_
  refine W.block ?_
  obtain ⟨I23, μ24, hv, hk49⟩ := hv
  change St _ _ _ _ [.row 3 1 A14 (((p.length : Nat) : Int).toNat) (((p.length : Nat) : Int).toNat) (is (List.replicate ((p.length : Nat) : Int).toNat (0 : Int))), .row 24 3 (some ⟨g11, 0, none⟩) 1 1 [.int .i64 Pf, .int .i64 Mf, .slice Af mf.length kf]] at hS
  refine W.loop (σ := List Int × Int) (fun q w1 => match q with | (x21, z22) => I23 x21 z22 ∧ St TT w none w1 [.row 3 1 A14 (((p.length : Nat) : Int).toNat) (((p.length : Nat) : Int).toNat) (is x21), .row 24 3 (some ⟨g11, 0, none⟩) 1 1 [.int .i64 Pf, .int .i64 Mf, .slice Af mf.length kf]]) (fun q => match q with | (x21, z22) => [(1, .int .i64 a), (2, .slice Ap p.length kp), (3, .pointer (some ⟨g11, 0, none⟩)), (6, .slice none 0 0), (7, .slice A14 (((p.length : Nat) : Int).toNat) (((p.length : Nat) : Int).toNat)), (8, .int .i64 z22)]) (fun q => match q with | (x21, z22) => μ24 x21 z22) (List.replicate ((p.length : Nat) : Int).toNat (0 : Int), (0 : Int)) ⟨hv, hS⟩ ⟨rfl, rfl, rfl, rfl, rfl, rfl, trivial⟩ ?_
  rintro ⟨x21, z22⟩ w25 ⟨hv, hS⟩
  have hv := hk49 x21 z22 hv
  refine W.seq ?_
  refine W.seq ?_
  refine W.region ?_
  refine WL.move rfl rfl ?_
  refine WL.move rfl rfl ?_
  refine WL.len Try.underlying22 rfl rfl ?_
  refine WL.lssD rfl rfl rfl ?_
  refine WL.done ?_
  refine W.cond2 rfl (fun c26 => ?_) (fun c26 => ?_)
  · have hv := hv.1 (of_decide_eq_true c26)
    refine W.skip ?_
    refine W.seq ?_
    refine W.block ?_
    obtain ⟨o34, hv⟩ := hv
    obtain ⟨r37, o39, hv⟩ := hv
    have hS0 := hS
    refine W.drawX 9 (fun _ => false) (fun _ => none) [⟨[], [7], true⟩, ⟨[], [8], true⟩, ⟨[], [3], false⟩, ⟨[], [1], true⟩, ⟨[], [2], true⟩, ⟨[], [8], true⟩, ⟨[4, 5], [], true⟩, ⟨[6], [], false⟩, ⟨[2, 3, 7], [], false⟩] [[(7, .slice A14 (((p.length : Nat) : Int).toNat) (((p.length : Nat) : Int).toNat))], [(8, .int .i64 z22)], [(3, .pointer (some ⟨g11, 0, none⟩))], [(1, .int .i64 a)], [(2, .slice Ap p.length kp)], [(8, .int .i64 z22)], [], [], []] (fun iQ => [fun v _ => v = .slice A14 (((p.length : Nat) : Int).toNat) (((p.length : Nat) : Int).toNat), fun v _ => v = .int .i64 z22, fun v _ => v = .agg #[.int .i64 Pf, .int .i64 Mf, .slice Af mf.length kf], fun v _ => v = .int .i64 a, fun v _ => v = .slice Ap p.length kp, fun v _ => v = .int .i64 z22, fun v _ => v = .pointer (some ((adOf Ap).add z22.toNat)), fun v _ => v = .int .i64 (gi p z22), fun v _ => v = .int .i64 r37].getD iQ (fun _ _ => True)) Try.mixed (by kernel_rfl) ?_ (by kernel_rfl) ?_ ?_
    · refine Vs_monoT _ ?_
      intro VQ hVQ vQ wQ1 wQ2 hQ1 hQ2
      simp only [List.mem_cons, List.not_mem_nil, or_false] at hVQ
      rcases hVQ with rfl | rfl | rfl | rfl | rfl | rfl | rfl | rfl | rfl
      · exact hQ1
      · exact hQ1
      · exact hQ1
      · exact hQ1
      · exact hQ1
      · exact hQ1
      · exact hQ1
      · exact hQ1
      · exact hQ1
    · refine ⟨⟨rfl, ⟨rfl, trivial⟩, ?_⟩, ⟨rfl, ⟨rfl, trivial⟩, ?_⟩, ⟨rfl, ⟨rfl, trivial⟩, ?_⟩, ⟨rfl, ⟨rfl, trivial⟩, ?_⟩, ⟨rfl, ⟨rfl, trivial⟩, ?_⟩, ⟨rfl, ⟨rfl, trivial⟩, ?_⟩, ⟨rfl, trivial, ?_⟩, ⟨rfl, trivial, ?_⟩, ⟨rfl, trivial, ?_⟩, trivial⟩
      · intro w27 hE
        intro RR
        refine WL.move rfl rfl ?_
        exact WL.done ⟨_, rfl, rfl, rfl, (fun h => absurd h (by decide)), (fun j h => by cases h)⟩
      · intro w28 hE
        intro RR
        refine WL.move rfl rfl ?_
        exact WL.done ⟨_, rfl, rfl, rfl, (fun h => absurd h (by decide)), (fun j h => by cases h)⟩
      · intro w29 hE
        have hE := hE rfl
        have hS := hS.grow hE
        intro RR
        refine WL.loadV (cs := [.int .i64 Pf, .int .i64 Mf, .slice Af mf.length kf]) Try.el24 Try.agg24 rfl rfl (Own.vcells (hS.own (i := 1) rfl)) rfl ?_
        exact WL.done ⟨_, rfl, ext_refl _, rfl, (fun h => absurd h (by decide)), (fun j h => by cases h)⟩
      · intro w30 hE
        intro RR
        refine WL.move rfl rfl ?_
        exact WL.done ⟨_, rfl, rfl, rfl, (fun h => absurd h (by decide)), (fun j h => by cases h)⟩
      · intro w31 hE
        intro RR
        refine WL.move rfl rfl ?_
        exact WL.done ⟨_, rfl, rfl, rfl, (fun h => absurd h (by decide)), (fun j h => by cases h)⟩
      · intro w32 hE
        intro RR
        refine WL.move rfl rfl ?_
        exact WL.done ⟨_, rfl, rfl, rfl, (fun h => absurd h (by decide)), (fun j h => by cases h)⟩
      · intro w33 hE
        rintro _ rfl
        rintro _ rfl
        intro RR
        refine SL.index Try.underlying22 Try.el3 (hS.ro hp) rfl rfl o34 rfl ?_
        exact WL.done ⟨_, rfl, rfl, rfl, (fun h => absurd h (by decide)), (fun j h => by cases h)⟩
      · intro w35 hE
        have hE := hE rfl
        have hS := hS.grow hE
        rintro _ rfl
        intro RR
        refine WL.load Try.underlying3 rfl rfl (Rd.gi (hS.ro hp) o34) rfl ?_
        exact WL.done ⟨_, rfl, ext_refl _, rfl, (fun h => absurd h (by decide)), (fun j h => by cases h)⟩
      · intro w36 hE
        have hE := hE rfl
        have hS := hS.grow hE
        rintro _ rfl
        rintro _ rfl
        rintro _ rfl
        intro RR
        refine WL.call Try.func47 rfl Try.nm47 rfl rfl (calls_un (ok_rMul (hS.ro hf) o39)) ?_
        rintro _ w38 ⟨_, hGw38, hRww38, hNww38, r37q, rfl, rfl, he⟩
        subst he
        exact WL.done ⟨_, rfl, hGw38, rfl, (fun h => absurd h (by decide)), (fun j h => by cases h)⟩
    · intro vals w40 hT hVs hAp hCp
      have hS := hS.grow hT
      have hv0 : vals 0 = _ := hVs 0 (by decide)
      have hv1 : vals 1 = _ := hVs 1 (by decide)
      have hv2 : vals 2 = _ := hVs 2 (by decide)
      have hv3 : vals 3 = _ := hVs 3 (by decide)
      have hv4 : vals 4 = _ := hVs 4 (by decide)
      have hv5 : vals 5 = _ := hVs 5 (by decide)
      have hv6 : vals 6 = _ := hVs 6 (by decide)
      have hv7 : vals 7 = _ := hVs 7 (by decide)
      have hv8 : vals 8 = _ := hVs 8 (by decide)
      rw [show (List.filterMap (fun i => Option.map (fun t => (t, vals i)) (dstAt _ i)) (List.range _)) = [(18, .slice A14 (((p.length : Nat) : Int).toNat) (((p.length : Nat) : Int).toNat)), (19, .int .i64 z22), (20, .agg #[.int .i64 Pf, .int .i64 Mf, .slice Af mf.length kf]), (21, .int .i64 a), (22, .slice Ap p.length kp), (23, .int .i64 z22), (24, .pointer (some ((adOf Ap).add z22.toNat))), (25, .int .i64 (gi p z22)), (26, .int .i64 r37)] from by
        show [(18, vals 0), (19, vals 1), (20, vals 2), (21, vals 3), (22, vals 4), (23, vals 5), (24, vals 6), (25, vals 7), (26, vals 8)] = _
        rw [hv0, hv1, hv2, hv3, hv4, hv5, hv6, hv7, hv8]]
      refine WA.step [9] (by decide +kernel) rfl ?_
      intro iQ hQ
      simp only [List.mem_cons, List.not_mem_nil, or_false] at hQ
      obtain rfl := hQ
      refine ⟨_, rfl, ?_⟩
      obtain ⟨o41, hv⟩ := hv
      refine SL.index Try.underlying22 Try.el3 (hS.rd (i := 0) rfl) rfl rfl o41 rfl ?_
      refine WL.done ?_
      refine WA.step [10] (by decide +kernel) rfl ?_
      intro iQ hQ
      simp only [List.mem_cons, List.not_mem_nil, or_false] at hQ
      obtain rfl := hQ
      refine ⟨_, rfl, ?_⟩
      refine SL.store (cs' := is (si x21 z22 r37)) 0 z22.toNat hS rfl Try.el3 rfl rfl rfl (is_lt (hS.rd (i := 0) rfl) o41) (is_set _ _ _) ?_
      intro w42 hS
      refine WL.done ?_
      refine WA.done (by decide +kernel) ?_
      refine W.region ?_
      refine WL.move rfl rfl ?_
      obtain ⟨o43, hv⟩ := hv
      refine WL.add (r := (z22 + (1 : Int))) rfl rfl (wr o43) rfl ?_
      refine WL.assign rfl rfl ?_
      refine WL.done ?_
      change St _ _ _ _ [.row 3 1 A14 (((p.length : Nat) : Int).toNat) (((p.length : Nat) : Int).toNat) (is (si x21 z22 r37)), .row 24 3 (some ⟨g11, 0, none⟩) 1 1 [.int .i64 Pf, .int .i64 Mf, .slice Af mf.length kf]] at hS
      exact ⟨(si x21 z22 r37, (z22 + (1 : Int))), ⟨rfl, rfl, rfl, rfl, rfl, rfl, trivial⟩, hv.2, rfl, hv.1, hS⟩
  · have hv := hv.2 (of_decide_eq_false c26)
    refine W.exit ?_
    refine W.seq ?_
    refine W.region ?_
    refine WL.loadV (cs := [.int .i64 Pf, .int .i64 Mf, .slice Af mf.length kf]) Try.el24 Try.agg24 rfl rfl (Own.vcells (hS.own (i := 1) rfl)) rfl ?_
    refine WL.move rfl rfl ?_
    refine SL.call hS (ok_rcanon (hS.ro hf) (hS.rd (i := 0) rfl) hv) Try.func24 rfl Try.nm24 rfl rfl ?_
    rintro _ _ w44 ⟨x45, A46, k47, rfl, rfl, hv⟩ hGw44 hS
    change St _ _ _ _ [.row 3 1 A46 x45.length k47 (is x45), .row 3 1 A14 (((p.length : Nat) : Int).toNat) (((p.length : Nat) : Int).toNat) (is x21), .row 24 3 (some ⟨g11, 0, none⟩) 1 1 [.int .i64 Pf, .int .i64 Mf, .slice Af mf.length kf]] at hS
    refine WL.assign rfl rfl ?_
    refine WL.done ?_
    refine W.ret ?_
    refine ⟨_, rfl, Fin.nil ?_⟩
    exact ⟨_, hS.ext, (hS.pick [0] rfl).rows, News.of (hS.pick [0] rfl).rows rfl, ⟨x45, A46, k47, rfl, rfl, hv⟩⟩

def V_rpsub (Pf : Int) (Mf : Int) (mf : List Int) (p : List Int) (t : List Int) (Q : List Int → Prop) : Prop :=
  ∃ (r18 : Int), V_rNeg Pf Mf mf (1 : Int) (fun q => q = r18) ∧ (∃ (x23 : List Int), V_rpscale Pf Mf mf r18 t (fun q => q = x23) ∧ (∃ (x32 : List Int), V_rpadd Pf Mf mf p x23 (fun q => q = x32) ∧ Q x32))
theorem ok_rpsub {w : World} {Q : List Int → Prop} {Pf : Int} {Mf : Int} {mf : List Int} {p : List Int} {t : List Int} {Bf : Nat} {Af : Option Addr} {nf kf : Nat} (hf : Rd Bf w 1 Af nf kf (is mf)) {Bp : Nat} {Ap : Option Addr} {np kp : Nat} (hp : Rd Bp w 1 Ap np kp (is p)) {Bt : Nat} {At : Option Addr} {nt kt : Nat} (ht : Rd Bt w 1 At nt kt (is t)) (hv : V_rpsub Pf Mf mf p t Q) :
    Calls Try.prog 30 #[.agg #[.int .i64 Pf, .int .i64 Mf, .slice Af nf kf], .slice Ap np kp, .slice At nt kt] w fun e w' => ∃ v Qr, e = .returned v ∧ w.grownBy w' none ∧ Rows w.heap.size none w' Qr ∧ News w.heap.size Qr ∧ ∃ (r0 : List Int) (Ar0 : Option Addr) (cr0 : Nat), v = .slice Ar0 r0.length cr0 ∧ Qr = [.row 3 1 Ar0 r0.length cr0 (is r0)] ∧ Q r0 := by
  have hnf := hf.ilen
  subst hnf
  have hnp := hp.ilen
  subst hnp
  have hnt := ht.ilen
  subst hnt
  refine calls_swap ?_
  refine calls_of_W (vs := [.agg #[.int .i64 Pf, .int .i64 Mf, .slice Af mf.length kf], .slice Ap p.length kp, .slice At t.length kt]) [6] Try.func30 rfl rfl rfl rfl ?_
  have hS := St.start w
  unfold V_rpsub at hv
  refine W.seq ?_
  refine W.region ?_
  refine SL.box (z := 3) (cs := [.int .i64 Pf, .int .i64 Mf, .slice Af mf.length kf]) hS rfl rfl rfl rfl ?_
  intro g11 w12 hS
  refine WL.assign rfl rfl ?_
  refine WL.done ?_
  refine W.seq ?_
  obtain ⟨r18, o20, hv⟩ := hv
  obtain ⟨x23, o30, hv⟩ := hv
  obtain ⟨x32, o39, hv⟩ := hv
  have hS0 := hS
  refine W.drawX 9 (fun iA => [false, false, false, false, false, false, true, true, false].getD iA false) (fun iC => match iC with | 8 => some 7 | _ => none) [⟨[], [3], false⟩, ⟨[], [1], true⟩, ⟨[], [3], false⟩, ⟨[], [3], false⟩, ⟨[3], [], false⟩, ⟨[], [2], true⟩, ⟨[2, 4, 5], [], false⟩, ⟨[0, 1, 6], [], false⟩, ⟨[7], [], true⟩] [[(3, .pointer (some ⟨g11, 0, none⟩))], [(1, .slice Ap p.length kp)], [(3, .pointer (some ⟨g11, 0, none⟩))], [(3, .pointer (some ⟨g11, 0, none⟩))], [], [(2, .slice At t.length kt)], [], [], []] (fun iQ => [fun v _ => v = .agg #[.int .i64 Pf, .int .i64 Mf, .slice Af mf.length kf], fun v _ => v = .slice Ap p.length kp, fun v _ => v = .agg #[.int .i64 Pf, .int .i64 Mf, .slice Af mf.length kf], fun v _ => v = .agg #[.int .i64 Pf, .int .i64 Mf, .slice Af mf.length kf], fun v _ => v = .int .i64 r18, fun v _ => v = .slice At t.length kt, fun v wQ => ∃ A24_6 k25_6, v = .slice A24_6 x23.length k25_6 ∧ Own 0 wQ 3 1 A24_6 x23.length k25_6 (is x23) ∧ (∀ g, bl A24_6 = some g → w12.heap.size ≤ g), fun v wQ => ∃ A33_7 k34_7, v = .slice A33_7 x32.length k34_7 ∧ Own 0 wQ 3 1 A33_7 x32.length k34_7 (is x32) ∧ (∀ g, bl A33_7 = some g → w12.heap.size ≤ g), fun v wQ => ∃ A33_7_8 k34_7_8, v = .slice A33_7_8 x32.length k34_7_8 ∧ Own 0 wQ 3 1 A33_7_8 x32.length k34_7_8 (is x32) ∧ (∀ g, bl A33_7_8 = some g → w12.heap.size ≤ g)].getD iQ (fun _ _ => True)) Try.mixed (by kernel_rfl) ?_ (by kernel_rfl) ?_ ?_
  · refine Vs_monoT _ ?_
    intro VQ hVQ vQ wQ1 wQ2 hQ1 hQ2
    simp only [List.mem_cons, List.not_mem_nil, or_false] at hVQ
    rcases hVQ with rfl | rfl | rfl | rfl | rfl | rfl | rfl | rfl | rfl
    · exact hQ1
    · exact hQ1
    · exact hQ1
    · exact hQ1
    · exact hQ1
    · exact hQ1
    · obtain ⟨A24_6, k25_6, hQe, hO28_6, hN29_6⟩ := hQ1
      exact ⟨A24_6, k25_6, hQe, hO28_6.ext hQ2, hN29_6⟩
    · obtain ⟨A33_7, k34_7, hQe, hO37_7, hN38_7⟩ := hQ1
      exact ⟨A33_7, k34_7, hQe, hO37_7.ext hQ2, hN38_7⟩
    · obtain ⟨A33_7_8, k34_7_8, hQe, hO37_7_8, hN38_7_8⟩ := hQ1
      exact ⟨A33_7_8, k34_7_8, hQe, hO37_7_8.ext hQ2, hN38_7_8⟩
  · refine ⟨⟨rfl, ⟨rfl, trivial⟩, ?_⟩, ⟨rfl, ⟨rfl, trivial⟩, ?_⟩, ⟨rfl, ⟨rfl, trivial⟩, ?_⟩, ⟨rfl, ⟨rfl, trivial⟩, ?_⟩, ⟨rfl, trivial, ?_⟩, ⟨rfl, ⟨rfl, trivial⟩, ?_⟩, ⟨rfl, trivial, ?_⟩, ⟨rfl, trivial, ?_⟩, ⟨rfl, trivial, ?_⟩, trivial⟩
    · intro w13 hE
      have hE := hE rfl
      have hS := hS.grow hE
      intro RR
      refine WL.loadV (cs := [.int .i64 Pf, .int .i64 Mf, .slice Af mf.length kf]) Try.el24 Try.agg24 rfl rfl (Own.vcells (hS.own (i := 0) rfl)) rfl ?_
      exact WL.done ⟨_, rfl, ext_refl _, rfl, (fun h => absurd h (by decide)), (fun j h => by cases h)⟩
    · intro w14 hE
      intro RR
      refine WL.move rfl rfl ?_
      exact WL.done ⟨_, rfl, rfl, rfl, (fun h => absurd h (by decide)), (fun j h => by cases h)⟩
    · intro w15 hE
      have hE := hE rfl
      have hS := hS.grow hE
      intro RR
      refine WL.loadV (cs := [.int .i64 Pf, .int .i64 Mf, .slice Af mf.length kf]) Try.el24 Try.agg24 rfl rfl (Own.vcells (hS.own (i := 0) rfl)) rfl ?_
      exact WL.done ⟨_, rfl, ext_refl _, rfl, (fun h => absurd h (by decide)), (fun j h => by cases h)⟩
    · intro w16 hE
      have hE := hE rfl
      have hS := hS.grow hE
      intro RR
      refine WL.loadV (cs := [.int .i64 Pf, .int .i64 Mf, .slice Af mf.length kf]) Try.el24 Try.agg24 rfl rfl (Own.vcells (hS.own (i := 0) rfl)) rfl ?_
      exact WL.done ⟨_, rfl, ext_refl _, rfl, (fun h => absurd h (by decide)), (fun j h => by cases h)⟩
    · intro w17 hE
      have hE := hE rfl
      have hS := hS.grow hE
      rintro _ rfl
      intro RR
      refine WL.call Try.func69 rfl Try.nm69 rfl rfl (calls_un (ok_rNeg (hS.ro hf) o20)) ?_
      rintro _ w19 ⟨_, hGw19, hRww19, hNww19, r18q, rfl, rfl, he⟩
      subst he
      exact WL.done ⟨_, rfl, hGw19, rfl, (fun h => absurd h (by decide)), (fun j h => by cases h)⟩
    · intro w21 hE
      intro RR
      refine WL.move rfl rfl ?_
      exact WL.done ⟨_, rfl, rfl, rfl, (fun h => absurd h (by decide)), (fun j h => by cases h)⟩
    · intro w22 hE
      have hE := hE rfl
      have hS := hS.grow hE
      rintro _ rfl
      rintro _ rfl
      rintro _ rfl
      intro RR
      refine WL.call Try.func34 rfl Try.nm34 rfl rfl (calls_un (ok_rpscale (hS.ro hf) (hS.ro ht) o30)) ?_
      rintro _ w27 ⟨_, hGw27, hRww27, hNww27, x23q, A24, k25, rfl, rfl, he⟩
      subst he
      have hO28 := (hRww27.get (i := 0) rfl).1
      have hN29 : ∀ g, bl A24 = some g → _ ≤ g := fun g hg => Nat.le_trans hE.size (hNww27.1 g hg)
      exact WL.done ⟨_, rfl, hGw27, ⟨A24, k25, rfl, hO28, hN29⟩, (fun _ => fun g hg => ⟨hNww27.1 g hg, (hO28.bl_ge g hg).2⟩), (fun j h => by cases h)⟩
    · intro w31 hE
      have hE := hE rfl
      have hS := hS.grow hE
      rintro _ rfl
      rintro _ rfl
      rintro _ ⟨A24_6, k25_6, rfl, hO28_6, hN29_6⟩
      intro RR
      refine WL.call Try.func28 rfl Try.nm28 rfl rfl (calls_un (ok_rpadd (hS.ro hf) (hS.ro hp) hO28_6.rd o39)) ?_
      rintro _ w36 ⟨_, hGw36, hRww36, hNww36, x32q, A33, k34, rfl, rfl, he⟩
      subst he
      have hO37 := (hRww36.get (i := 0) rfl).1
      have hN38 : ∀ g, bl A33 = some g → _ ≤ g := fun g hg => Nat.le_trans hE.size (hNww36.1 g hg)
      exact WL.done ⟨_, rfl, hGw36, ⟨A33, k34, rfl, hO37, hN38⟩, (fun _ => fun g hg => ⟨hNww36.1 g hg, (hO37.bl_ge g hg).2⟩), (fun j h => by cases h)⟩
    · intro w40 hE
      rintro _ ⟨A33_7, k34_7, rfl, hO37_7, hN38_7⟩
      intro RR
      refine WL.assign rfl rfl ?_
      exact WL.done ⟨_, rfl, rfl, ⟨A33_7, k34_7, rfl, hO37_7, hN38_7⟩, (fun h => absurd h (by decide)), (fun j h => by cases h; rfl)⟩
  · intro vals w41 hT hVs hAp hCp
    have hS := hS.grow hT
    have hv0 : vals 0 = _ := hVs 0 (by decide)
    have hv1 : vals 1 = _ := hVs 1 (by decide)
    have hv2 : vals 2 = _ := hVs 2 (by decide)
    have hv3 : vals 3 = _ := hVs 3 (by decide)
    have hv4 : vals 4 = _ := hVs 4 (by decide)
    have hv5 : vals 5 = _ := hVs 5 (by decide)
    obtain ⟨A24_6, k25_6, hv6, hO28_6, hN29_6⟩ := hVs 6 (by decide)
    obtain ⟨A33_7, k34_7, hv7, hO37_7, hN38_7⟩ := hVs 7 (by decide)
    have hv8 : vals 8 = .slice A33_7 x32.length k34_7 := (hCp 8 7 (by decide) rfl).trans hv7
    have hS := St.addOwn [] hS0 hS hO37_7 hN38_7 (fun s hs => by cases hs)
    change St _ _ _ _ [.row 3 1 A33_7 x32.length k34_7 (is x32), .row 24 3 (some ⟨g11, 0, none⟩) 1 1 [.int .i64 Pf, .int .i64 Mf, .slice Af mf.length kf]] at hS
    rw [show (List.filterMap (fun i => Option.map (fun t => (t, vals i)) (dstAt _ i)) (List.range _)) = [(7, .agg #[.int .i64 Pf, .int .i64 Mf, .slice Af mf.length kf]), (8, .slice Ap p.length kp), (9, .agg #[.int .i64 Pf, .int .i64 Mf, .slice Af mf.length kf]), (10, .agg #[.int .i64 Pf, .int .i64 Mf, .slice Af mf.length kf]), (11, .int .i64 r18), (12, .slice At t.length kt), (13, .slice A24_6 x23.length k25_6), (14, .slice A33_7 x32.length k34_7), (6, .slice A33_7 x32.length k34_7)] from by
      show [(7, vals 0), (8, vals 1), (9, vals 2), (10, vals 3), (11, vals 4), (12, vals 5), (13, vals 6), (14, vals 7), (6, vals 8)] = _
      rw [hv0, hv1, hv2, hv3, hv4, hv5, hv6, hv7, hv8]]
    refine WA.done (by decide +kernel) ?_
    refine W.ret ?_
    refine ⟨_, rfl, Fin.nil ?_⟩
    exact ⟨_, hS.ext, (hS.pick [0] rfl).rows, News.of (hS.pick [0] rfl).rows rfl, ⟨x32, A33_7, k34_7, rfl, rfl, hv⟩⟩

def V_rpmul (Pf : Int) (Mf : Int) (mf : List Int) (p : List Int) (t : List Int) (Q : List Int → Prop) : Prop :=
  V_rcanon Pf Mf mf p (fun x14 => V_rcanon Pf Mf mf t (fun x19 => (I64 (((x14.length : Nat) : Int) + ((x19.length : Nat) : Int))) ∧ ((0 ≤ (((x14.length : Nat) : Int) + ((x19.length : Nat) : Int)) ∧ (((x14.length : Nat) : Int) + ((x19.length : Nat) : Int)) * 8 ≤ 281474976710656 ∧ (((x14.length : Nat) : Int) + ((x19.length : Nat) : Int)) ≤ 281474976710656) ∧ (∃ (I34 : List Int → Int → Prop) (μ35 : List Int → Int → Nat), I34 (List.replicate (((x14.length : Nat) : Int) + ((x19.length : Nat) : Int)).toNat (0 : Int)) (0 : Int) ∧ ∀ (x32 : List Int) (z33 : Int), (I34 x32 z33 → (((z33 < ((x14.length : Nat) : Int)) → (∃ (I44 : List Int → Int → Prop) (μ45 : List Int → Int → Nat), I44 x32 (0 : Int) ∧ ∀ (x42 : List Int) (z43 : Int), (I44 x42 z43 → (((z43 < ((x19.length : Nat) : Int)) → ((I64 (z33 + z43)) ∧ ((I64 (z33 + z43)) ∧ ((0 ≤ (z33 + z43) ∧ (z33 + z43) < ((((x14.length : Nat) : Int) + ((x19.length : Nat) : Int)).toNat : Nat)) ∧ ((0 ≤ z33 ∧ z33 < (x14.length : Nat)) ∧ ((0 ≤ z43 ∧ z43 < (x19.length : Nat)) ∧ (∃ (r74 : Int), V_rMul Pf Mf mf (gi x14 z33) (gi x19 z43) (fun q => q = r74) ∧ (∃ (r78 : Int), V_rAdd Pf Mf mf (gi x42 (z33 + z43)) r74 (fun q => q = r78) ∧ ((0 ≤ (z33 + z43) ∧ (z33 + z43) < ((((x14.length : Nat) : Int) + ((x19.length : Nat) : Int)).toNat : Nat)) ∧ ((I64 (z43 + (1 : Int))) ∧ (I44 (si x42 (z33 + z43) r78) (z43 + (1 : Int)) ∧ μ45 (si x42 (z33 + z43) r78) (z43 + (1 : Int)) < μ45 x42 z43))))))))))) ∧ (¬ (z43 < ((x19.length : Nat) : Int)) → ((I64 (z33 + (1 : Int))) ∧ (I34 x42 (z33 + (1 : Int)) ∧ μ35 x42 (z33 + (1 : Int)) < μ35 x32 z33))))))) ∧ (¬ (z33 < ((x14.length : Nat) : Int)) → (V_rcanon Pf Mf mf x32 (fun x88 => Q x88)))))))))
theorem ok_rpmul {w : World} {Q : List Int → Prop} {Pf : Int} {Mf : Int} {mf : List Int} {p : List Int} {t : List Int} {Bf : Nat} {Af : Option Addr} {nf kf : Nat} (hf : Rd Bf w 1 Af nf kf (is mf)) {Bp : Nat} {Ap : Option Addr} {np kp : Nat} (hp : Rd Bp w 1 Ap np kp (is p)) {Bt : Nat} {At : Option Addr} {nt kt : Nat} (ht : Rd Bt w 1 At nt kt (is t)) (hv : V_rpmul Pf Mf mf p t Q) :
    Calls Try.prog 31 #[.agg #[.int .i64 Pf, .int .i64 Mf, .slice Af nf kf], .slice Ap np kp, .slice At nt kt] w fun e w' => ∃ v Qr, e = .returned v ∧ w.grownBy w' none ∧ Rows w.heap.size none w' Qr ∧ News w.heap.size Qr ∧ ∃ (r0 : List Int) (Ar0 : Option Addr) (cr0 : Nat), v = .slice Ar0 r0.length cr0 ∧ Qr = [.row 3 1 Ar0 r0.length cr0 (is r0)] ∧ Q r0 := by
  have hnf := hf.ilen
  subst hnf
  have hnp := hp.ilen
  subst hnp
  have hnt := ht.ilen
  subst hnt
  refine calls_swap ?_
  refine calls_of_W (vs := [.agg #[.int .i64 Pf, .int .i64 Mf, .slice Af mf.length kf], .slice Ap p.length kp, .slice At t.length kt]) [6] Try.func31 rfl rfl rfl rfl ?_
  have hS := St.start w
  unfold V_rpmul at hv
  refine W.seq ?_
  refine W.region ?_
  refine SL.box (z := 3) (cs := [.int .i64 Pf, .int .i64 Mf, .slice Af mf.length kf]) hS rfl rfl rfl rfl ?_
  intro g11 w12 hS
  refine WL.assign rfl rfl ?_
  refine WL.done ?_
  refine W.seq ?_
  refine W.region ?_
  refine WL.loadV (cs := [.int .i64 Pf, .int .i64 Mf, .slice Af mf.length kf]) Try.el24 Try.agg24 rfl rfl (Own.vcells (hS.own (i := 0) rfl)) rfl ?_
  refine WL.move rfl rfl ?_
  refine SL.call hS (ok_rcanon (hS.ro hf) (hS.ro hp) hv) Try.func24 rfl Try.nm24 rfl rfl ?_
  rintro _ _ w13 ⟨x14, A15, k16, rfl, rfl, hv⟩ hGw13 hS
  change St _ _ _ _ [.row 3 1 A15 x14.length k16 (is x14), .row 24 3 (some ⟨g11, 0, none⟩) 1 1 [.int .i64 Pf, .int .i64 Mf, .slice Af mf.length kf]] at hS
  refine WL.assign rfl rfl ?_
  refine WL.done ?_
  refine W.seq ?_
  refine W.region ?_
  refine WL.loadV (cs := [.int .i64 Pf, .int .i64 Mf, .slice Af mf.length kf]) Try.el24 Try.agg24 rfl rfl (Own.vcells (hS.own (i := 1) rfl)) rfl ?_
  refine WL.move rfl rfl ?_
  refine SL.call hS (ok_rcanon (hS.ro hf) (hS.ro ht) hv) Try.func24 rfl Try.nm24 rfl rfl ?_
  rintro _ _ w18 ⟨x19, A20, k21, rfl, rfl, hv⟩ hGw18 hS
  change St _ _ _ _ [.row 3 1 A20 x19.length k21 (is x19), .row 3 1 A15 x14.length k16 (is x14), .row 24 3 (some ⟨g11, 0, none⟩) 1 1 [.int .i64 Pf, .int .i64 Mf, .slice Af mf.length kf]] at hS
  refine WL.assign rfl rfl ?_
  refine WL.done ?_
  refine W.seq ?_
  refine W.region ?_
  refine WL.move rfl rfl ?_
  refine WL.len Try.underlying22 rfl rfl ?_
  refine WL.move rfl rfl ?_
  refine WL.len Try.underlying22 rfl rfl ?_
  obtain ⟨o23, hv⟩ := hv
  refine WL.add (r := (((x14.length : Nat) : Int) + ((x19.length : Nat) : Int))) rfl rfl (wr o23) rfl ?_
  obtain ⟨o24, hv⟩ := hv
  refine SL.make (J := (((x14.length : Nat) : Int) + ((x19.length : Nat) : Int))) hS Try.underlying22 Try.el3 rfl rfl o24 (made_is _) rfl ?_
  intro A25 w26 hS
  refine WL.assign rfl rfl ?_
  refine WL.done ?_
  refine W.seq ?_
  refine W.seq ?_
  refine W.region ?_
  refine WL.assign rfl rfl ?_
  refine WL.done ?_
  refine W.block ?_
  obtain ⟨I34, μ35, hv, hk92⟩ := hv
  change St _ _ _ _ [.row 3 1 A25 ((((x14.length : Nat) : Int) + ((x19.length : Nat) : Int)).toNat) ((((x14.length : Nat) : Int) + ((x19.length : Nat) : Int)).toNat) (is (List.replicate (((x14.length : Nat) : Int) + ((x19.length : Nat) : Int)).toNat (0 : Int))), .row 3 1 A20 x19.length k21 (is x19), .row 3 1 A15 x14.length k16 (is x14), .row 24 3 (some ⟨g11, 0, none⟩) 1 1 [.int .i64 Pf, .int .i64 Mf, .slice Af mf.length kf]] at hS
  refine W.loop (σ := List Int × Int) (fun q w1 => match q with | (x32, z33) => I34 x32 z33 ∧ St TT w none w1 [.row 3 1 A25 ((((x14.length : Nat) : Int) + ((x19.length : Nat) : Int)).toNat) ((((x14.length : Nat) : Int) + ((x19.length : Nat) : Int)).toNat) (is x32), .row 3 1 A20 x19.length k21 (is x19), .row 3 1 A15 x14.length k16 (is x14), .row 24 3 (some ⟨g11, 0, none⟩) 1 1 [.int .i64 Pf, .int .i64 Mf, .slice Af mf.length kf]]) (fun q => match q with | (x32, z33) => [(1, .slice A15 x14.length k16), (2, .slice A20 x19.length k21), (3, .pointer (some ⟨g11, 0, none⟩)), (6, .slice none 0 0), (7, .slice A25 ((((x14.length : Nat) : Int) + ((x19.length : Nat) : Int)).toNat) ((((x14.length : Nat) : Int) + ((x19.length : Nat) : Int)).toNat)), (8, .int .i64 z33)]) (fun q => match q with | (x32, z33) => μ35 x32 z33) (List.replicate (((x14.length : Nat) : Int) + ((x19.length : Nat) : Int)).toNat (0 : Int), (0 : Int)) ⟨hv, hS⟩ ⟨rfl, rfl, rfl, rfl, rfl, rfl, trivial⟩ ?_
  rintro ⟨x32, z33⟩ w36 ⟨hv, hS⟩
  have hv := hk92 x32 z33 hv
  refine W.seq ?_
  refine W.seq ?_
  refine W.region ?_
  refine WL.move rfl rfl ?_
  refine WL.move rfl rfl ?_
  refine WL.len Try.underlying22 rfl rfl ?_
  refine WL.lssD rfl rfl rfl ?_
  refine WL.done ?_
  refine W.cond2 rfl (fun c37 => ?_) (fun c37 => ?_)
  · have hv := hv.1 (of_decide_eq_true c37)
    refine W.skip ?_
    refine W.seq ?_
    refine W.block ?_
    refine W.seq ?_
    refine W.region ?_
    refine WL.assign rfl rfl ?_
    refine WL.done ?_
    refine W.block ?_
    obtain ⟨I44, μ45, hv, hk86⟩ := hv
    change St _ _ _ _ [.row 3 1 A25 ((((x14.length : Nat) : Int) + ((x19.length : Nat) : Int)).toNat) ((((x14.length : Nat) : Int) + ((x19.length : Nat) : Int)).toNat) (is x32), .row 3 1 A20 x19.length k21 (is x19), .row 3 1 A15 x14.length k16 (is x14), .row 24 3 (some ⟨g11, 0, none⟩) 1 1 [.int .i64 Pf, .int .i64 Mf, .slice Af mf.length kf]] at hS
    refine W.loop (σ := List Int × Int) (fun q w1 => match q with | (x42, z43) => I44 x42 z43 ∧ St TT w none w1 [.row 3 1 A25 ((((x14.length : Nat) : Int) + ((x19.length : Nat) : Int)).toNat) ((((x14.length : Nat) : Int) + ((x19.length : Nat) : Int)).toNat) (is x42), .row 3 1 A20 x19.length k21 (is x19), .row 3 1 A15 x14.length k16 (is x14), .row 24 3 (some ⟨g11, 0, none⟩) 1 1 [.int .i64 Pf, .int .i64 Mf, .slice Af mf.length kf]]) (fun q => match q with | (x42, z43) => [(1, .slice A15 x14.length k16), (2, .slice A20 x19.length k21), (3, .pointer (some ⟨g11, 0, none⟩)), (6, .slice none 0 0), (7, .slice A25 ((((x14.length : Nat) : Int) + ((x19.length : Nat) : Int)).toNat) ((((x14.length : Nat) : Int) + ((x19.length : Nat) : Int)).toNat)), (8, .int .i64 z33), (9, .int .i64 z43), (25, .bool (decide (z33 < ((x14.length : Nat) : Int))))]) (fun q => match q with | (x42, z43) => μ45 x42 z43) (x32, (0 : Int)) ⟨hv, hS⟩ ⟨rfl, rfl, rfl, rfl, rfl, rfl, rfl, rfl, trivial⟩ ?_
    rintro ⟨x42, z43⟩ w46 ⟨hv, hS⟩
    have hv := hk86 x42 z43 hv
    refine W.seq ?_
    refine W.seq ?_
    refine W.region ?_
    refine WL.move rfl rfl ?_
    refine WL.move rfl rfl ?_
    refine WL.len Try.underlying22 rfl rfl ?_
    refine WL.lssD rfl rfl rfl ?_
    refine WL.done ?_
    refine W.cond2 rfl (fun c47 => ?_) (fun c47 => ?_)
    · have hv := hv.1 (of_decide_eq_true c47)
      refine W.skip ?_
      refine W.seq ?_
      refine W.block ?_
      obtain ⟨o52, hv⟩ := hv
      obtain ⟨o58, hv⟩ := hv
      obtain ⟨o60, hv⟩ := hv
      obtain ⟨o66, hv⟩ := hv
      obtain ⟨o71, hv⟩ := hv
      obtain ⟨r74, o76, hv⟩ := hv
      obtain ⟨r78, o80, hv⟩ := hv
      have hS0 := hS
      refine W.drawX 22 (fun _ => false) (fun _ => none) [⟨[], [7], true⟩, ⟨[], [8], true⟩, ⟨[], [9], true⟩, ⟨[1, 2], [], true⟩, ⟨[], [3], false⟩, ⟨[], [7], true⟩, ⟨[], [8], true⟩, ⟨[], [9], true⟩, ⟨[6, 7], [], true⟩, ⟨[5, 8], [], true⟩, ⟨[9], [], false⟩, ⟨[], [3], false⟩, ⟨[], [1], true⟩, ⟨[], [8], true⟩, ⟨[12, 13], [], true⟩, ⟨[14], [], false⟩, ⟨[], [2], true⟩, ⟨[], [9], true⟩, ⟨[16, 17], [], true⟩, ⟨[18], [], false⟩, ⟨[11, 15, 19], [], false⟩, ⟨[4, 10, 20], [], false⟩] [[(7, .slice A25 ((((x14.length : Nat) : Int) + ((x19.length : Nat) : Int)).toNat) ((((x14.length : Nat) : Int) + ((x19.length : Nat) : Int)).toNat))], [(8, .int .i64 z33)], [(9, .int .i64 z43)], [], [(3, .pointer (some ⟨g11, 0, none⟩))], [(7, .slice A25 ((((x14.length : Nat) : Int) + ((x19.length : Nat) : Int)).toNat) ((((x14.length : Nat) : Int) + ((x19.length : Nat) : Int)).toNat))], [(8, .int .i64 z33)], [(9, .int .i64 z43)], [], [], [], [(3, .pointer (some ⟨g11, 0, none⟩))], [(1, .slice A15 x14.length k16)], [(8, .int .i64 z33)], [], [], [(2, .slice A20 x19.length k21)], [(9, .int .i64 z43)], [], [], [], []] (fun iQ => [fun v _ => v = .slice A25 ((((x14.length : Nat) : Int) + ((x19.length : Nat) : Int)).toNat) ((((x14.length : Nat) : Int) + ((x19.length : Nat) : Int)).toNat), fun v _ => v = .int .i64 z33, fun v _ => v = .int .i64 z43, fun v _ => v = .int .i64 (z33 + z43), fun v _ => v = .agg #[.int .i64 Pf, .int .i64 Mf, .slice Af mf.length kf], fun v _ => v = .slice A25 ((((x14.length : Nat) : Int) + ((x19.length : Nat) : Int)).toNat) ((((x14.length : Nat) : Int) + ((x19.length : Nat) : Int)).toNat), fun v _ => v = .int .i64 z33, fun v _ => v = .int .i64 z43, fun v _ => v = .int .i64 (z33 + z43), fun v _ => v = .pointer (some ((adOf A25).add ((z33 + z43).toNat))), fun v _ => v = .int .i64 (gi x42 (z33 + z43)), fun v _ => v = .agg #[.int .i64 Pf, .int .i64 Mf, .slice Af mf.length kf], fun v _ => v = .slice A15 x14.length k16, fun v _ => v = .int .i64 z33, fun v _ => v = .pointer (some ((adOf A15).add z33.toNat)), fun v _ => v = .int .i64 (gi x14 z33), fun v _ => v = .slice A20 x19.length k21, fun v _ => v = .int .i64 z43, fun v _ => v = .pointer (some ((adOf A20).add z43.toNat)), fun v _ => v = .int .i64 (gi x19 z43), fun v _ => v = .int .i64 r74, fun v _ => v = .int .i64 r78].getD iQ (fun _ _ => True)) Try.mixed (by kernel_rfl) ?_ (by kernel_rfl) ?_ ?_
      · refine Vs_monoT _ ?_
        intro VQ hVQ vQ wQ1 wQ2 hQ1 hQ2
        simp only [List.mem_cons, List.not_mem_nil, or_false] at hVQ
        rcases hVQ with rfl | rfl | rfl | rfl | rfl | rfl | rfl | rfl | rfl | rfl | rfl | rfl | rfl | rfl | rfl | rfl | rfl | rfl | rfl | rfl | rfl | rfl
        · exact hQ1
        · exact hQ1
        · exact hQ1
        · exact hQ1
        · exact hQ1
        · exact hQ1
        · exact hQ1
        · exact hQ1
        · exact hQ1
        · exact hQ1
        · exact hQ1
        · exact hQ1
        · exact hQ1
        · exact hQ1
        · exact hQ1
        · exact hQ1
        · exact hQ1
        · exact hQ1
        · exact hQ1
        · exact hQ1
        · exact hQ1
        · exact hQ1
      · refine ⟨⟨rfl, ⟨rfl, trivial⟩, ?_⟩, ⟨rfl, ⟨rfl, trivial⟩, ?_⟩, ⟨rfl, ⟨rfl, trivial⟩, ?_⟩, ⟨rfl, trivial, ?_⟩, ⟨rfl, ⟨rfl, trivial⟩, ?_⟩, ⟨rfl, ⟨rfl, trivial⟩, ?_⟩, ⟨rfl, ⟨rfl, trivial⟩, ?_⟩, ⟨rfl, ⟨rfl, trivial⟩, ?_⟩, ⟨rfl, trivial, ?_⟩, ⟨rfl, trivial, ?_⟩, ⟨rfl, trivial, ?_⟩, ⟨rfl, ⟨rfl, trivial⟩, ?_⟩, ⟨rfl, ⟨rfl, trivial⟩, ?_⟩, ⟨rfl, ⟨rfl, trivial⟩, ?_⟩, ⟨rfl, trivial, ?_⟩, ⟨rfl, trivial, ?_⟩, ⟨rfl, ⟨rfl, trivial⟩, ?_⟩, ⟨rfl, ⟨rfl, trivial⟩, ?_⟩, ⟨rfl, trivial, ?_⟩, ⟨rfl, trivial, ?_⟩, ⟨rfl, trivial, ?_⟩, ⟨rfl, trivial, ?_⟩, trivial⟩
        · intro w48 hE
          intro RR
          refine WL.move rfl rfl ?_
          exact WL.done ⟨_, rfl, rfl, rfl, (fun h => absurd h (by decide)), (fun j h => by cases h)⟩
        · intro w49 hE
          intro RR
          refine WL.move rfl rfl ?_
          exact WL.done ⟨_, rfl, rfl, rfl, (fun h => absurd h (by decide)), (fun j h => by cases h)⟩
        · intro w50 hE
          intro RR
          refine WL.move rfl rfl ?_
          exact WL.done ⟨_, rfl, rfl, rfl, (fun h => absurd h (by decide)), (fun j h => by cases h)⟩
        · intro w51 hE
          rintro _ rfl
          rintro _ rfl
          intro RR
          refine WL.add (r := (z33 + z43)) rfl rfl (wr o52) rfl ?_
          exact WL.done ⟨_, rfl, rfl, rfl, (fun h => absurd h (by decide)), (fun j h => by cases h)⟩
        · intro w53 hE
          have hE := hE rfl
          have hS := hS.grow hE
          intro RR
          refine WL.loadV (cs := [.int .i64 Pf, .int .i64 Mf, .slice Af mf.length kf]) Try.el24 Try.agg24 rfl rfl (Own.vcells (hS.own (i := 3) rfl)) rfl ?_
          exact WL.done ⟨_, rfl, ext_refl _, rfl, (fun h => absurd h (by decide)), (fun j h => by cases h)⟩
        · intro w54 hE
          intro RR
          refine WL.move rfl rfl ?_
          exact WL.done ⟨_, rfl, rfl, rfl, (fun h => absurd h (by decide)), (fun j h => by cases h)⟩
        · intro w55 hE
          intro RR
          refine WL.move rfl rfl ?_
          exact WL.done ⟨_, rfl, rfl, rfl, (fun h => absurd h (by decide)), (fun j h => by cases h)⟩
        · intro w56 hE
          intro RR
          refine WL.move rfl rfl ?_
          exact WL.done ⟨_, rfl, rfl, rfl, (fun h => absurd h (by decide)), (fun j h => by cases h)⟩
        · intro w57 hE
          rintro _ rfl
          rintro _ rfl
          intro RR
          refine WL.add (r := (z33 + z43)) rfl rfl (wr o58) rfl ?_
          exact WL.done ⟨_, rfl, rfl, rfl, (fun h => absurd h (by decide)), (fun j h => by cases h)⟩
        · intro w59 hE
          rintro _ rfl
          rintro _ rfl
          intro RR
          refine SL.index Try.underlying22 Try.el3 (hS.rd (i := 0) rfl) rfl rfl o60 rfl ?_
          exact WL.done ⟨_, rfl, rfl, rfl, (fun h => absurd h (by decide)), (fun j h => by cases h)⟩
        · intro w61 hE
          have hE := hE rfl
          have hS := hS.grow hE
          rintro _ rfl
          intro RR
          refine WL.load Try.underlying3 rfl rfl (Rd.gi (hS.rd (i := 0) rfl) o60) rfl ?_
          exact WL.done ⟨_, rfl, ext_refl _, rfl, (fun h => absurd h (by decide)), (fun j h => by cases h)⟩
        · intro w62 hE
          have hE := hE rfl
          have hS := hS.grow hE
          intro RR
          refine WL.loadV (cs := [.int .i64 Pf, .int .i64 Mf, .slice Af mf.length kf]) Try.el24 Try.agg24 rfl rfl (Own.vcells (hS.own (i := 3) rfl)) rfl ?_
          exact WL.done ⟨_, rfl, ext_refl _, rfl, (fun h => absurd h (by decide)), (fun j h => by cases h)⟩
        · intro w63 hE
          intro RR
          refine WL.move rfl rfl ?_
          exact WL.done ⟨_, rfl, rfl, rfl, (fun h => absurd h (by decide)), (fun j h => by cases h)⟩
        · intro w64 hE
          intro RR
          refine WL.move rfl rfl ?_
          exact WL.done ⟨_, rfl, rfl, rfl, (fun h => absurd h (by decide)), (fun j h => by cases h)⟩
        · intro w65 hE
          rintro _ rfl
          rintro _ rfl
          intro RR
          refine SL.index Try.underlying22 Try.el3 (hS.rd (i := 2) rfl) rfl rfl o66 rfl ?_
          exact WL.done ⟨_, rfl, rfl, rfl, (fun h => absurd h (by decide)), (fun j h => by cases h)⟩
        · intro w67 hE
          have hE := hE rfl
          have hS := hS.grow hE
          rintro _ rfl
          intro RR
          refine WL.load Try.underlying3 rfl rfl (Rd.gi (hS.rd (i := 2) rfl) o66) rfl ?_
          exact WL.done ⟨_, rfl, ext_refl _, rfl, (fun h => absurd h (by decide)), (fun j h => by cases h)⟩
        · intro w68 hE
          intro RR
          refine WL.move rfl rfl ?_
          exact WL.done ⟨_, rfl, rfl, rfl, (fun h => absurd h (by decide)), (fun j h => by cases h)⟩
        · intro w69 hE
          intro RR
          refine WL.move rfl rfl ?_
          exact WL.done ⟨_, rfl, rfl, rfl, (fun h => absurd h (by decide)), (fun j h => by cases h)⟩
        · intro w70 hE
          rintro _ rfl
          rintro _ rfl
          intro RR
          refine SL.index Try.underlying22 Try.el3 (hS.rd (i := 1) rfl) rfl rfl o71 rfl ?_
          exact WL.done ⟨_, rfl, rfl, rfl, (fun h => absurd h (by decide)), (fun j h => by cases h)⟩
        · intro w72 hE
          have hE := hE rfl
          have hS := hS.grow hE
          rintro _ rfl
          intro RR
          refine WL.load Try.underlying3 rfl rfl (Rd.gi (hS.rd (i := 1) rfl) o71) rfl ?_
          exact WL.done ⟨_, rfl, ext_refl _, rfl, (fun h => absurd h (by decide)), (fun j h => by cases h)⟩
        · intro w73 hE
          have hE := hE rfl
          have hS := hS.grow hE
          rintro _ rfl
          rintro _ rfl
          rintro _ rfl
          intro RR
          refine WL.call Try.func47 rfl Try.nm47 rfl rfl (calls_un (ok_rMul (hS.ro hf) o76)) ?_
          rintro _ w75 ⟨_, hGw75, hRww75, hNww75, r74q, rfl, rfl, he⟩
          subst he
          exact WL.done ⟨_, rfl, hGw75, rfl, (fun h => absurd h (by decide)), (fun j h => by cases h)⟩
        · intro w77 hE
          have hE := hE rfl
          have hS := hS.grow hE
          rintro _ rfl
          rintro _ rfl
          rintro _ rfl
          intro RR
          refine WL.call Try.func46 rfl Try.nm46 rfl rfl (calls_un (ok_rAdd (hS.ro hf) o80)) ?_
          rintro _ w79 ⟨_, hGw79, hRww79, hNww79, r78q, rfl, rfl, he⟩
          subst he
          exact WL.done ⟨_, rfl, hGw79, rfl, (fun h => absurd h (by decide)), (fun j h => by cases h)⟩
      · intro vals w81 hT hVs hAp hCp
        have hS := hS.grow hT
        have hv0 : vals 0 = _ := hVs 0 (by decide)
        have hv1 : vals 1 = _ := hVs 1 (by decide)
        have hv2 : vals 2 = _ := hVs 2 (by decide)
        have hv3 : vals 3 = _ := hVs 3 (by decide)
        have hv4 : vals 4 = _ := hVs 4 (by decide)
        have hv5 : vals 5 = _ := hVs 5 (by decide)
        have hv6 : vals 6 = _ := hVs 6 (by decide)
        have hv7 : vals 7 = _ := hVs 7 (by decide)
        have hv8 : vals 8 = _ := hVs 8 (by decide)
        have hv9 : vals 9 = _ := hVs 9 (by decide)
        have hv10 : vals 10 = _ := hVs 10 (by decide)
        have hv11 : vals 11 = _ := hVs 11 (by decide)
        have hv12 : vals 12 = _ := hVs 12 (by decide)
        have hv13 : vals 13 = _ := hVs 13 (by decide)
        have hv14 : vals 14 = _ := hVs 14 (by decide)
        have hv15 : vals 15 = _ := hVs 15 (by decide)
        have hv16 : vals 16 = _ := hVs 16 (by decide)
        have hv17 : vals 17 = _ := hVs 17 (by decide)
        have hv18 : vals 18 = _ := hVs 18 (by decide)
        have hv19 : vals 19 = _ := hVs 19 (by decide)
        have hv20 : vals 20 = _ := hVs 20 (by decide)
        have hv21 : vals 21 = _ := hVs 21 (by decide)
        rw [show (List.filterMap (fun i => Option.map (fun t => (t, vals i)) (dstAt _ i)) (List.range _)) = [(34, .slice A25 ((((x14.length : Nat) : Int) + ((x19.length : Nat) : Int)).toNat) ((((x14.length : Nat) : Int) + ((x19.length : Nat) : Int)).toNat)), (35, .int .i64 z33), (36, .int .i64 z43), (37, .int .i64 (z33 + z43)), (38, .agg #[.int .i64 Pf, .int .i64 Mf, .slice Af mf.length kf]), (39, .slice A25 ((((x14.length : Nat) : Int) + ((x19.length : Nat) : Int)).toNat) ((((x14.length : Nat) : Int) + ((x19.length : Nat) : Int)).toNat)), (40, .int .i64 z33), (41, .int .i64 z43), (42, .int .i64 (z33 + z43)), (43, .pointer (some ((adOf A25).add ((z33 + z43).toNat)))), (44, .int .i64 (gi x42 (z33 + z43))), (45, .agg #[.int .i64 Pf, .int .i64 Mf, .slice Af mf.length kf]), (46, .slice A15 x14.length k16), (47, .int .i64 z33), (48, .pointer (some ((adOf A15).add z33.toNat))), (49, .int .i64 (gi x14 z33)), (50, .slice A20 x19.length k21), (51, .int .i64 z43), (52, .pointer (some ((adOf A20).add z43.toNat))), (53, .int .i64 (gi x19 z43)), (54, .int .i64 r74), (55, .int .i64 r78)] from by
          show [(34, vals 0), (35, vals 1), (36, vals 2), (37, vals 3), (38, vals 4), (39, vals 5), (40, vals 6), (41, vals 7), (42, vals 8), (43, vals 9), (44, vals 10), (45, vals 11), (46, vals 12), (47, vals 13), (48, vals 14), (49, vals 15), (50, vals 16), (51, vals 17), (52, vals 18), (53, vals 19), (54, vals 20), (55, vals 21)] = _
          rw [hv0, hv1, hv2, hv3, hv4, hv5, hv6, hv7, hv8, hv9, hv10, hv11, hv12, hv13, hv14, hv15, hv16, hv17, hv18, hv19, hv20, hv21]]
        refine WA.step [22] (by decide +kernel) rfl ?_
        intro iQ hQ
        simp only [List.mem_cons, List.not_mem_nil, or_false] at hQ
        obtain rfl := hQ
        refine ⟨_, rfl, ?_⟩
        obtain ⟨o82, hv⟩ := hv
        refine SL.index Try.underlying22 Try.el3 (hS.rd (i := 0) rfl) rfl rfl o82 rfl ?_
        refine WL.done ?_
        refine WA.step [23] (by decide +kernel) rfl ?_
        intro iQ hQ
        simp only [List.mem_cons, List.not_mem_nil, or_false] at hQ
        obtain rfl := hQ
        refine ⟨_, rfl, ?_⟩
        refine SL.store (cs' := is (si x42 (z33 + z43) r78)) 0 (z33 + z43).toNat hS rfl Try.el3 rfl rfl rfl (is_lt (hS.rd (i := 0) rfl) o82) (is_set _ _ _) ?_
        intro w83 hS
        refine WL.done ?_
        refine WA.done (by decide +kernel) ?_
        refine W.region ?_
        refine WL.move rfl rfl ?_
        obtain ⟨o84, hv⟩ := hv
        refine WL.add (r := (z43 + (1 : Int))) rfl rfl (wr o84) rfl ?_
        refine WL.assign rfl rfl ?_
        refine WL.done ?_
        change St _ _ _ _ [.row 3 1 A25 ((((x14.length : Nat) : Int) + ((x19.length : Nat) : Int)).toNat) ((((x14.length : Nat) : Int) + ((x19.length : Nat) : Int)).toNat) (is (si x42 (z33 + z43) r78)), .row 3 1 A20 x19.length k21 (is x19), .row 3 1 A15 x14.length k16 (is x14), .row 24 3 (some ⟨g11, 0, none⟩) 1 1 [.int .i64 Pf, .int .i64 Mf, .slice Af mf.length kf]] at hS
        exact ⟨(si x42 (z33 + z43) r78, (z43 + (1 : Int))), ⟨rfl, rfl, rfl, rfl, rfl, rfl, rfl, rfl, trivial⟩, hv.2, rfl, hv.1, hS⟩
    · have hv := hv.2 (of_decide_eq_false c47)
      refine W.exit ?_
      refine W.region ?_
      refine WL.move rfl rfl ?_
      obtain ⟨o85, hv⟩ := hv
      refine WL.add (r := (z33 + (1 : Int))) rfl rfl (wr o85) rfl ?_
      refine WL.assign rfl rfl ?_
      refine WL.done ?_
      change St _ _ _ _ [.row 3 1 A25 ((((x14.length : Nat) : Int) + ((x19.length : Nat) : Int)).toNat) ((((x14.length : Nat) : Int) + ((x19.length : Nat) : Int)).toNat) (is x42), .row 3 1 A20 x19.length k21 (is x19), .row 3 1 A15 x14.length k16 (is x14), .row 24 3 (some ⟨g11, 0, none⟩) 1 1 [.int .i64 Pf, .int .i64 Mf, .slice Af mf.length kf]] at hS
      exact ⟨(x42, (z33 + (1 : Int))), ⟨rfl, rfl, rfl, rfl, rfl, rfl, trivial⟩, hv.2, rfl, hv.1, hS⟩
  · have hv := hv.2 (of_decide_eq_false c37)
    refine W.exit ?_
    refine W.seq ?_
    refine W.region ?_
    refine WL.loadV (cs := [.int .i64 Pf, .int .i64 Mf, .slice Af mf.length kf]) Try.el24 Try.agg24 rfl rfl (Own.vcells (hS.own (i := 3) rfl)) rfl ?_
    refine WL.move rfl rfl ?_
    refine SL.call hS (ok_rcanon (hS.ro hf) (hS.rd (i := 0) rfl) hv) Try.func24 rfl Try.nm24 rfl rfl ?_
    rintro _ _ w87 ⟨x88, A89, k90, rfl, rfl, hv⟩ hGw87 hS
    change St _ _ _ _ [.row 3 1 A89 x88.length k90 (is x88), .row 3 1 A25 ((((x14.length : Nat) : Int) + ((x19.length : Nat) : Int)).toNat) ((((x14.length : Nat) : Int) + ((x19.length : Nat) : Int)).toNat) (is x32), .row 3 1 A20 x19.length k21 (is x19), .row 3 1 A15 x14.length k16 (is x14), .row 24 3 (some ⟨g11, 0, none⟩) 1 1 [.int .i64 Pf, .int .i64 Mf, .slice Af mf.length kf]] at hS
    refine WL.assign rfl rfl ?_
    refine WL.done ?_
    refine W.ret ?_
    refine ⟨_, rfl, Fin.nil ?_⟩
    exact ⟨_, hS.ext, (hS.pick [0] rfl).rows, News.of (hS.pick [0] rfl).rows rfl, ⟨x88, A89, k90, rfl, rfl, hv⟩⟩

def V_rpower (n : Int) (Q : List Int → Prop) : Prop :=
  (I64 (n + (1 : Int))) ∧ ((0 ≤ (n + (1 : Int)) ∧ (n + (1 : Int)) * 8 ≤ 281474976710656 ∧ (n + (1 : Int)) ≤ 281474976710656) ∧ ((0 ≤ n ∧ n < ((n + (1 : Int)).toNat : Nat)) ∧ (Q (si (List.replicate (n + (1 : Int)).toNat (0 : Int)) n (1 : Int)))))
theorem ok_rpower {w : World} {Q : List Int → Prop} {n : Int}  (hv : V_rpower n Q) :
    Calls Try.prog 100 #[.int .i64 n] w fun e w' => ∃ v Qr, e = .returned v ∧ w.grownBy w' none ∧ Rows w.heap.size none w' Qr ∧ News w.heap.size Qr ∧ ∃ (r0 : List Int) (Ar0 : Option Addr) (cr0 : Nat), v = .slice Ar0 r0.length cr0 ∧ Qr = [.row 3 1 Ar0 r0.length cr0 (is r0)] ∧ Q r0 := by
  refine calls_swap ?_
  refine calls_of_W (vs := [.int .i64 n]) [2] Try.func100 rfl rfl rfl rfl ?_
  have hS := St.start w
  unfold V_rpower at hv
  refine W.seq ?_
  refine W.region ?_
  refine WL.assign rfl rfl ?_
  refine WL.done ?_
  refine W.seq ?_
  refine W.region ?_
  refine WL.move rfl rfl ?_
  obtain ⟨o11, hv⟩ := hv
  refine WL.add (r := (n + (1 : Int))) rfl rfl (wr o11) rfl ?_
  obtain ⟨o12, hv⟩ := hv
  refine SL.make (J := (n + (1 : Int))) hS Try.underlying22 Try.el3 rfl rfl o12 (made_is _) rfl ?_
  intro A13 w14 hS
  refine WL.assign rfl rfl ?_
  refine WL.done ?_
  refine W.seq ?_
  refine W.region ?_
  refine WL.move rfl rfl ?_
  refine WL.move rfl rfl ?_
  obtain ⟨o16, hv⟩ := hv
  refine SL.index Try.underlying22 Try.el3 (hS.rd (i := 0) rfl) rfl rfl o16 rfl ?_
  refine SL.store (cs' := is (si (List.replicate (n + (1 : Int)).toNat (0 : Int)) n (1 : Int))) 0 n.toNat hS rfl Try.el3 rfl rfl rfl (is_lt (hS.rd (i := 0) rfl) o16) (is_set _ _ _) ?_
  intro w17 hS
  refine WL.done ?_
  refine W.seq ?_
  refine W.region ?_
  refine WL.move rfl rfl ?_
  refine WL.assign rfl rfl ?_
  refine WL.done ?_
  refine W.ret ?_
  have hm0 := (hS.rd (i := 0) rfl).ilen
  have hS := hS.relen (i := 0) rfl hm0.symm
  refine ⟨_, rfl, Fin.nil ?_⟩
  exact ⟨_, hS.ext, (hS.pick [0] rfl).rows, News.of (hS.pick [0] rfl).rows rfl, ⟨si (List.replicate (n + (1 : Int)).toNat (0 : Int)) n (1 : Int), A13, (n + (1 : Int)).toNat, (by first | (rw [hm0]; done) | (rw [hm0]; rfl)), rfl, hv⟩⟩

def V_rdivmod (Pf : Int) (Mf : Int) (mf : List Int) (p : List Int) (t : List Int) (Q : List Int × List Int → Prop) : Prop :=
  V_rcanon Pf Mf mf t (fun x14 => V_rcanon Pf Mf mf p (fun x19 => (I64 (((x14.length : Nat) : Int) - (1 : Int))) ∧ ((0 ≤ (((x14.length : Nat) : Int) - (1 : Int)) ∧ (((x14.length : Nat) : Int) - (1 : Int)) < (x14.length : Nat)) ∧ (∃ (r31 : Int), V_rInv Pf Mf mf (gi x14 (((x14.length : Nat) : Int) - (1 : Int))) (fun q => q = r31) ∧ ((I64 (((x19.length : Nat) : Int) - (((x14.length : Nat) : Int) - (1 : Int)))) ∧ ((0 ≤ (max (((x19.length : Nat) : Int) - (((x14.length : Nat) : Int) - (1 : Int))) (0 : Int)) ∧ (max (((x19.length : Nat) : Int) - (((x14.length : Nat) : Int) - (1 : Int))) (0 : Int)) * 8 ≤ 281474976710656 ∧ (max (((x19.length : Nat) : Int) - (((x14.length : Nat) : Int) - (1 : Int))) (0 : Int)) ≤ 281474976710656) ∧ (∃ (I56 : List Int → List Int → Prop) (μ57 : List Int → List Int → Nat), I56 (List.replicate (max (((x19.length : Nat) : Int) - (((x14.length : Nat) : Int) - (1 : Int))) (0 : Int)).toNat (0 : Int)) x19 ∧ ∀ (x51 : List Int) (x52 : List Int), (I56 x51 x52 → ((((((x14.length : Nat) : Int) - (1 : Int)) < ((x52.length : Nat) : Int)) → ((I64 (((x52.length : Nat) : Int) - (1 : Int))) ∧ ((I64 ((((x52.length : Nat) : Int) - (1 : Int)) - (((x14.length : Nat) : Int) - (1 : Int)))) ∧ ((I64 (((x52.length : Nat) : Int) - (1 : Int))) ∧ ((0 ≤ (((x52.length : Nat) : Int) - (1 : Int)) ∧ (((x52.length : Nat) : Int) - (1 : Int)) < (x52.length : Nat)) ∧ (∃ (r73 : Int), V_rMul Pf Mf mf (gi x52 (((x52.length : Nat) : Int) - (1 : Int))) r31 (fun q => q = r73) ∧ ((0 ≤ ((((x52.length : Nat) : Int) - (1 : Int)) - (((x14.length : Nat) : Int) - (1 : Int))) ∧ ((((x52.length : Nat) : Int) - (1 : Int)) - (((x14.length : Nat) : Int) - (1 : Int))) < ((max (((x19.length : Nat) : Int) - (((x14.length : Nat) : Int) - (1 : Int))) (0 : Int)).toNat : Nat)) ∧ (∃ (x87 : List Int), V_rpscale Pf Mf mf r73 x14 (fun q => q = x87) ∧ (∃ (x97 : List Int), V_rpower ((((x52.length : Nat) : Int) - (1 : Int)) - (((x14.length : Nat) : Int) - (1 : Int))) (fun q => q = x97) ∧ (∃ (x106 : List Int), V_rpmul Pf Mf mf x87 x97 (fun q => q = x106) ∧ (∃ (x115 : List Int), V_rpsub Pf Mf mf x52 x106 (fun q => q = x115) ∧ (I56 (si x51 ((((x52.length : Nat) : Int) - (1 : Int)) - (((x14.length : Nat) : Int) - (1 : Int))) r73) x115 ∧ μ57 (si x51 ((((x52.length : Nat) : Int) - (1 : Int)) - (((x14.length : Nat) : Int) - (1 : Int))) r73) x115 < μ57 x51 x52)))))))))))) ∧ (¬ ((((x14.length : Nat) : Int) - (1 : Int)) < ((x52.length : Nat) : Int)) → (V_rcanon Pf Mf mf x51 (fun x127 => Q (x127, x52)))))))))))))
theorem ok_rdivmod {w : World} {Q : List Int × List Int → Prop} {Pf : Int} {Mf : Int} {mf : List Int} {p : List Int} {t : List Int} {Bf : Nat} {Af : Option Addr} {nf kf : Nat} (hf : Rd Bf w 1 Af nf kf (is mf)) {Bp : Nat} {Ap : Option Addr} {np kp : Nat} (hp : Rd Bp w 1 Ap np kp (is p)) {Bt : Nat} {At : Option Addr} {nt kt : Nat} (ht : Rd Bt w 1 At nt kt (is t)) (hv : V_rdivmod Pf Mf mf p t Q) :
    Calls Try.prog 78 #[.agg #[.int .i64 Pf, .int .i64 Mf, .slice Af nf kf], .slice Ap np kp, .slice At nt kt] w fun e w' => ∃ v Qr, e = .returned v ∧ w.grownBy w' none ∧ Rows w.heap.size none w' Qr ∧ News w.heap.size Qr ∧ ∃ (r0 : List Int) (r1 : List Int) (Ar0 : Option Addr) (cr0 : Nat) (Ar1 : Option Addr) (cr1 : Nat), v = .tuple #[.slice Ar0 r0.length cr0, .slice Ar1 r1.length cr1] ∧ Qr = [.row 3 1 Ar0 r0.length cr0 (is r0), .row 3 1 Ar1 r1.length cr1 (is r1)] ∧ Q (r0, r1) := by
  have hnf := hf.ilen
  subst hnf
  have hnp := hp.ilen
  subst hnp
  have hnt := ht.ilen
  subst hnt
  refine calls_swap ?_
  refine calls_of_W (vs := [.agg #[.int .i64 Pf, .int .i64 Mf, .slice Af mf.length kf], .slice Ap p.length kp, .slice At t.length kt]) [6, 7] Try.func78 rfl rfl rfl rfl ?_
  have hS := St.start w
  unfold V_rdivmod at hv
  refine W.seq ?_
  refine W.region ?_
  refine SL.box (z := 3) (cs := [.int .i64 Pf, .int .i64 Mf, .slice Af mf.length kf]) hS rfl rfl rfl rfl ?_
  intro g11 w12 hS
  refine WL.assign rfl rfl ?_
  refine WL.assign rfl rfl ?_
  refine WL.done ?_
  refine W.seq ?_
  refine W.region ?_
  refine WL.loadV (cs := [.int .i64 Pf, .int .i64 Mf, .slice Af mf.length kf]) Try.el24 Try.agg24 rfl rfl (Own.vcells (hS.own (i := 0) rfl)) rfl ?_
  refine WL.move rfl rfl ?_
  refine SL.call hS (ok_rcanon (hS.ro hf) (hS.ro ht) hv) Try.func24 rfl Try.nm24 rfl rfl ?_
  rintro _ _ w13 ⟨x14, A15, k16, rfl, rfl, hv⟩ hGw13 hS
  change St _ _ _ _ [.row 3 1 A15 x14.length k16 (is x14), .row 24 3 (some ⟨g11, 0, none⟩) 1 1 [.int .i64 Pf, .int .i64 Mf, .slice Af mf.length kf]] at hS
  refine WL.assign rfl rfl ?_
  refine WL.done ?_
  refine W.seq ?_
  refine W.region ?_
  refine WL.loadV (cs := [.int .i64 Pf, .int .i64 Mf, .slice Af mf.length kf]) Try.el24 Try.agg24 rfl rfl (Own.vcells (hS.own (i := 1) rfl)) rfl ?_
  refine WL.move rfl rfl ?_
  refine SL.call hS (ok_rcanon (hS.ro hf) (hS.ro hp) hv) Try.func24 rfl Try.nm24 rfl rfl ?_
  rintro _ _ w18 ⟨x19, A20, k21, rfl, rfl, hv⟩ hGw18 hS
  change St _ _ _ _ [.row 3 1 A20 x19.length k21 (is x19), .row 3 1 A15 x14.length k16 (is x14), .row 24 3 (some ⟨g11, 0, none⟩) 1 1 [.int .i64 Pf, .int .i64 Mf, .slice Af mf.length kf]] at hS
  refine WL.assign rfl rfl ?_
  refine WL.done ?_
  refine W.seq ?_
  refine W.region ?_
  refine WL.move rfl rfl ?_
  refine WL.len Try.underlying22 rfl rfl ?_
  obtain ⟨o23, hv⟩ := hv
  refine WL.sub (r := (((x14.length : Nat) : Int) - (1 : Int))) rfl rfl (wr o23) rfl ?_
  refine WL.assign rfl rfl ?_
  refine WL.done ?_
  refine W.seq ?_
  obtain ⟨o28, hv⟩ := hv
  obtain ⟨r31, o33, hv⟩ := hv
  have hS0 := hS
  refine W.drawX 7 (fun _ => false) (fun _ => none) [⟨[], [3], false⟩, ⟨[], [2], true⟩, ⟨[], [9], true⟩, ⟨[1, 2], [], true⟩, ⟨[3], [], false⟩, ⟨[0, 4], [], false⟩, ⟨[5], [], true⟩] [[(3, .pointer (some ⟨g11, 0, none⟩))], [(2, .slice A15 x14.length k16)], [(9, .int .i64 (((x14.length : Nat) : Int) - (1 : Int)))], [], [], [], []] (fun iQ => [fun v _ => v = .agg #[.int .i64 Pf, .int .i64 Mf, .slice Af mf.length kf], fun v _ => v = .slice A15 x14.length k16, fun v _ => v = .int .i64 (((x14.length : Nat) : Int) - (1 : Int)), fun v _ => v = .pointer (some ((adOf A15).add ((((x14.length : Nat) : Int) - (1 : Int)).toNat))), fun v _ => v = .int .i64 (gi x14 (((x14.length : Nat) : Int) - (1 : Int))), fun v _ => v = .int .i64 r31, fun v _ => v = .int .i64 r31].getD iQ (fun _ _ => True)) Try.mixed (by kernel_rfl) ?_ (by kernel_rfl) ?_ ?_
  · refine Vs_monoT _ ?_
    intro VQ hVQ vQ wQ1 wQ2 hQ1 hQ2
    simp only [List.mem_cons, List.not_mem_nil, or_false] at hVQ
    rcases hVQ with rfl | rfl | rfl | rfl | rfl | rfl | rfl
    · exact hQ1
    · exact hQ1
    · exact hQ1
    · exact hQ1
    · exact hQ1
    · exact hQ1
    · exact hQ1
  · refine ⟨⟨rfl, ⟨rfl, trivial⟩, ?_⟩, ⟨rfl, ⟨rfl, trivial⟩, ?_⟩, ⟨rfl, ⟨rfl, trivial⟩, ?_⟩, ⟨rfl, trivial, ?_⟩, ⟨rfl, trivial, ?_⟩, ⟨rfl, trivial, ?_⟩, ⟨rfl, trivial, ?_⟩, trivial⟩
    · intro w24 hE
      have hE := hE rfl
      have hS := hS.grow hE
      intro RR
      refine WL.loadV (cs := [.int .i64 Pf, .int .i64 Mf, .slice Af mf.length kf]) Try.el24 Try.agg24 rfl rfl (Own.vcells (hS.own (i := 2) rfl)) rfl ?_
      exact WL.done ⟨_, rfl, ext_refl _, rfl, (fun h => absurd h (by decide)), (fun j h => by cases h)⟩
    · intro w25 hE
      intro RR
      refine WL.move rfl rfl ?_
      exact WL.done ⟨_, rfl, rfl, rfl, (fun h => absurd h (by decide)), (fun j h => by cases h)⟩
    · intro w26 hE
      intro RR
      refine WL.move rfl rfl ?_
      exact WL.done ⟨_, rfl, rfl, rfl, (fun h => absurd h (by decide)), (fun j h => by cases h)⟩
    · intro w27 hE
      rintro _ rfl
      rintro _ rfl
      intro RR
      refine SL.index Try.underlying22 Try.el3 (hS.rd (i := 1) rfl) rfl rfl o28 rfl ?_
      exact WL.done ⟨_, rfl, rfl, rfl, (fun h => absurd h (by decide)), (fun j h => by cases h)⟩
    · intro w29 hE
      have hE := hE rfl
      have hS := hS.grow hE
      rintro _ rfl
      intro RR
      refine WL.load Try.underlying3 rfl rfl (Rd.gi (hS.rd (i := 1) rfl) o28) rfl ?_
      exact WL.done ⟨_, rfl, ext_refl _, rfl, (fun h => absurd h (by decide)), (fun j h => by cases h)⟩
    · intro w30 hE
      have hE := hE rfl
      have hS := hS.grow hE
      rintro _ rfl
      rintro _ rfl
      intro RR
      refine WL.call Try.func77 rfl Try.nm77 rfl rfl (calls_un (ok_rInv (hS.ro hf) o33)) ?_
      rintro _ w32 ⟨_, hGw32, hRww32, hNww32, r31q, rfl, rfl, he⟩
      subst he
      exact WL.done ⟨_, rfl, hGw32, rfl, (fun h => absurd h (by decide)), (fun j h => by cases h)⟩
    · intro w34 hE
      rintro _ rfl
      intro RR
      refine WL.assign rfl rfl ?_
      exact WL.done ⟨_, rfl, rfl, rfl, (fun h => absurd h (by decide)), (fun j h => by cases h)⟩
  · intro vals w35 hT hVs hAp hCp
    have hS := hS.grow hT
    have hv0 : vals 0 = _ := hVs 0 (by decide)
    have hv1 : vals 1 = _ := hVs 1 (by decide)
    have hv2 : vals 2 = _ := hVs 2 (by decide)
    have hv3 : vals 3 = _ := hVs 3 (by decide)
    have hv4 : vals 4 = _ := hVs 4 (by decide)
    have hv5 : vals 5 = _ := hVs 5 (by decide)
    have hv6 : vals 6 = _ := hVs 6 (by decide)
    rw [show (List.filterMap (fun i => Option.map (fun t => (t, vals i)) (dstAt _ i)) (List.range _)) = [(23, .agg #[.int .i64 Pf, .int .i64 Mf, .slice Af mf.length kf]), (24, .slice A15 x14.length k16), (25, .int .i64 (((x14.length : Nat) : Int) - (1 : Int))), (26, .pointer (some ((adOf A15).add ((((x14.length : Nat) : Int) - (1 : Int)).toNat)))), (27, .int .i64 (gi x14 (((x14.length : Nat) : Int) - (1 : Int)))), (28, .int .i64 r31), (10, .int .i64 r31)] from by
      show [(23, vals 0), (24, vals 1), (25, vals 2), (26, vals 3), (27, vals 4), (28, vals 5), (10, vals 6)] = _
      rw [hv0, hv1, hv2, hv3, hv4, hv5, hv6]]
    refine WA.done (by decide +kernel) ?_
    refine W.seq ?_
    refine W.region ?_
    refine WL.move rfl rfl ?_
    refine WL.len Try.underlying22 rfl rfl ?_
    refine WL.move rfl rfl ?_
    obtain ⟨o36, hv⟩ := hv
    refine WL.sub (r := (((x19.length : Nat) : Int) - (((x14.length : Nat) : Int) - (1 : Int)))) rfl rfl (wr o36) rfl ?_
    refine WL.max2 (r := (max (((x19.length : Nat) : Int) - (((x14.length : Nat) : Int) - (1 : Int))) (0 : Int))) rfl rfl rfl rfl ?_
    obtain ⟨o37, hv⟩ := hv
    refine SL.make (J := (max (((x19.length : Nat) : Int) - (((x14.length : Nat) : Int) - (1 : Int))) (0 : Int))) hS Try.underlying22 Try.el3 rfl rfl o37 (made_is _) rfl ?_
    intro A38 w39 hS
    refine WL.assign rfl rfl ?_
    refine WL.done ?_
    refine W.seq ?_
    refine W.block ?_
    obtain ⟨I56, μ57, hv, hk131⟩ := hv
    have hS := hS.pick [1, 0, 2, 3] rfl
    change St _ _ _ _ [.row 3 1 A20 x19.length k21 (is x19), .row 3 1 A38 ((max (((x19.length : Nat) : Int) - (((x14.length : Nat) : Int) - (1 : Int))) (0 : Int)).toNat) ((max (((x19.length : Nat) : Int) - (((x14.length : Nat) : Int) - (1 : Int))) (0 : Int)).toNat) (is (List.replicate (max (((x19.length : Nat) : Int) - (((x14.length : Nat) : Int) - (1 : Int))) (0 : Int)).toNat (0 : Int))), .row 3 1 A15 x14.length k16 (is x14), .row 24 3 (some ⟨g11, 0, none⟩) 1 1 [.int .i64 Pf, .int .i64 Mf, .slice Af mf.length kf]] at hS
    refine W.loop (σ := List Int × List Int × Option Addr × Nat) (fun q w1 => match q with | (x51, x52, A53, k54) => I56 x51 x52 ∧ St TT w none w1 [.row 3 1 A53 x52.length k54 (is x52), .row 3 1 A38 ((max (((x19.length : Nat) : Int) - (((x14.length : Nat) : Int) - (1 : Int))) (0 : Int)).toNat) ((max (((x19.length : Nat) : Int) - (((x14.length : Nat) : Int) - (1 : Int))) (0 : Int)).toNat) (is x51), .row 3 1 A15 x14.length k16 (is x14), .row 24 3 (some ⟨g11, 0, none⟩) 1 1 [.int .i64 Pf, .int .i64 Mf, .slice Af mf.length kf]]) (fun q => match q with | (x51, x52, A53, k54) => [(2, .slice A15 x14.length k16), (3, .pointer (some ⟨g11, 0, none⟩)), (6, .slice none 0 0), (7, .slice none 0 0), (8, .slice A53 x52.length k54), (9, .int .i64 (((x14.length : Nat) : Int) - (1 : Int))), (10, .int .i64 r31), (11, .slice A38 ((max (((x19.length : Nat) : Int) - (((x14.length : Nat) : Int) - (1 : Int))) (0 : Int)).toNat) ((max (((x19.length : Nat) : Int) - (((x14.length : Nat) : Int) - (1 : Int))) (0 : Int)).toNat))]) (fun q => match q with | (x51, x52, A53, k54) => μ57 x51 x52) (List.replicate (max (((x19.length : Nat) : Int) - (((x14.length : Nat) : Int) - (1 : Int))) (0 : Int)).toNat (0 : Int), x19, A20, k21) ⟨hv, hS⟩ ⟨rfl, rfl, rfl, rfl, rfl, rfl, rfl, rfl, trivial⟩ ?_
    rintro ⟨x51, x52, A53, k54⟩ w58 ⟨hv, hS⟩
    have hv := hk131 x51 x52 hv
    refine W.seq ?_
    refine W.seq ?_
    refine W.region ?_
    refine WL.move rfl rfl ?_
    refine WL.len Try.underlying22 rfl rfl ?_
    refine WL.move rfl rfl ?_
    refine WL.gtrD rfl rfl rfl ?_
    refine WL.done ?_
    refine W.cond2 rfl (fun c59 => ?_) (fun c59 => ?_)
    · have hv := hv.1 (of_decide_eq_true c59)
      refine W.skip ?_
      refine W.block ?_
      refine W.seq ?_
      refine W.region ?_
      refine WL.move rfl rfl ?_
      refine WL.len Try.underlying22 rfl rfl ?_
      obtain ⟨o60, hv⟩ := hv
      refine WL.sub (r := (((x52.length : Nat) : Int) - (1 : Int))) rfl rfl (wr o60) rfl ?_
      refine WL.move rfl rfl ?_
      obtain ⟨o61, hv⟩ := hv
      refine WL.sub (r := ((((x52.length : Nat) : Int) - (1 : Int)) - (((x14.length : Nat) : Int) - (1 : Int)))) rfl rfl (wr o61) rfl ?_
      refine WL.assign rfl rfl ?_
      refine WL.done ?_
      refine W.seq ?_
      obtain ⟨o67, hv⟩ := hv
      obtain ⟨o69, hv⟩ := hv
      obtain ⟨r73, o75, hv⟩ := hv
      have hS0 := hS
      refine W.drawX 10 (fun _ => false) (fun _ => none) [⟨[], [3], false⟩, ⟨[], [8], true⟩, ⟨[], [8], true⟩, ⟨[2], [], true⟩, ⟨[3], [], true⟩, ⟨[1, 4], [], true⟩, ⟨[5], [], false⟩, ⟨[], [10], true⟩, ⟨[0, 6, 7], [], false⟩, ⟨[8], [], true⟩] [[(3, .pointer (some ⟨g11, 0, none⟩))], [(8, .slice A53 x52.length k54)], [(8, .slice A53 x52.length k54)], [], [], [], [], [(10, .int .i64 r31)], [], []] (fun iQ => [fun v _ => v = .agg #[.int .i64 Pf, .int .i64 Mf, .slice Af mf.length kf], fun v _ => v = .slice A53 x52.length k54, fun v _ => v = .slice A53 x52.length k54, fun v _ => v = .int .i64 ((x52.length : Nat) : Int), fun v _ => v = .int .i64 (((x52.length : Nat) : Int) - (1 : Int)), fun v _ => v = .pointer (some ((adOf A53).add ((((x52.length : Nat) : Int) - (1 : Int)).toNat))), fun v _ => v = .int .i64 (gi x52 (((x52.length : Nat) : Int) - (1 : Int))), fun v _ => v = .int .i64 r31, fun v _ => v = .int .i64 r73, fun v _ => v = .int .i64 r73].getD iQ (fun _ _ => True)) Try.mixed (by kernel_rfl) ?_ (by kernel_rfl) ?_ ?_
      · refine Vs_monoT _ ?_
        intro VQ hVQ vQ wQ1 wQ2 hQ1 hQ2
        simp only [List.mem_cons, List.not_mem_nil, or_false] at hVQ
        rcases hVQ with rfl | rfl | rfl | rfl | rfl | rfl | rfl | rfl | rfl | rfl
        · exact hQ1
        · exact hQ1
        · exact hQ1
        · exact hQ1
        · exact hQ1
        · exact hQ1
        · exact hQ1
        · exact hQ1
        · exact hQ1
        · exact hQ1
      · refine ⟨⟨rfl, ⟨rfl, trivial⟩, ?_⟩, ⟨rfl, ⟨rfl, trivial⟩, ?_⟩, ⟨rfl, ⟨rfl, trivial⟩, ?_⟩, ⟨rfl, trivial, ?_⟩, ⟨rfl, trivial, ?_⟩, ⟨rfl, trivial, ?_⟩, ⟨rfl, trivial, ?_⟩, ⟨rfl, ⟨rfl, trivial⟩, ?_⟩, ⟨rfl, trivial, ?_⟩, ⟨rfl, trivial, ?_⟩, trivial⟩
        · intro w62 hE
          have hE := hE rfl
          have hS := hS.grow hE
          intro RR
          refine WL.loadV (cs := [.int .i64 Pf, .int .i64 Mf, .slice Af mf.length kf]) Try.el24 Try.agg24 rfl rfl (Own.vcells (hS.own (i := 3) rfl)) rfl ?_
          exact WL.done ⟨_, rfl, ext_refl _, rfl, (fun h => absurd h (by decide)), (fun j h => by cases h)⟩
        · intro w63 hE
          intro RR
          refine WL.move rfl rfl ?_
          exact WL.done ⟨_, rfl, rfl, rfl, (fun h => absurd h (by decide)), (fun j h => by cases h)⟩
        · intro w64 hE
          intro RR
          refine WL.move rfl rfl ?_
          exact WL.done ⟨_, rfl, rfl, rfl, (fun h => absurd h (by decide)), (fun j h => by cases h)⟩
        · intro w65 hE
          rintro _ rfl
          intro RR
          refine WL.len Try.underlying22 rfl rfl ?_
          exact WL.done ⟨_, rfl, rfl, rfl, (fun h => absurd h (by decide)), (fun j h => by cases h)⟩
        · intro w66 hE
          rintro _ rfl
          intro RR
          refine WL.sub (r := (((x52.length : Nat) : Int) - (1 : Int))) rfl rfl (wr o67) rfl ?_
          exact WL.done ⟨_, rfl, rfl, rfl, (fun h => absurd h (by decide)), (fun j h => by cases h)⟩
        · intro w68 hE
          rintro _ rfl
          rintro _ rfl
          intro RR
          refine SL.index Try.underlying22 Try.el3 (hS.rd (i := 0) rfl) rfl rfl o69 rfl ?_
          exact WL.done ⟨_, rfl, rfl, rfl, (fun h => absurd h (by decide)), (fun j h => by cases h)⟩
        · intro w70 hE
          have hE := hE rfl
          have hS := hS.grow hE
          rintro _ rfl
          intro RR
          refine WL.load Try.underlying3 rfl rfl (Rd.gi (hS.rd (i := 0) rfl) o69) rfl ?_
          exact WL.done ⟨_, rfl, ext_refl _, rfl, (fun h => absurd h (by decide)), (fun j h => by cases h)⟩
        · intro w71 hE
          intro RR
          refine WL.move rfl rfl ?_
          exact WL.done ⟨_, rfl, rfl, rfl, (fun h => absurd h (by decide)), (fun j h => by cases h)⟩
        · intro w72 hE
          have hE := hE rfl
          have hS := hS.grow hE
          rintro _ rfl
          rintro _ rfl
          rintro _ rfl
          intro RR
          refine WL.call Try.func47 rfl Try.nm47 rfl rfl (calls_un (ok_rMul (hS.ro hf) o75)) ?_
          rintro _ w74 ⟨_, hGw74, hRww74, hNww74, r73q, rfl, rfl, he⟩
          subst he
          exact WL.done ⟨_, rfl, hGw74, rfl, (fun h => absurd h (by decide)), (fun j h => by cases h)⟩
        · intro w76 hE
          rintro _ rfl
          intro RR
          refine WL.assign rfl rfl ?_
          exact WL.done ⟨_, rfl, rfl, rfl, (fun h => absurd h (by decide)), (fun j h => by cases h)⟩
      · intro vals w77 hT hVs hAp hCp
        have hS := hS.grow hT
        have hv0 : vals 0 = _ := hVs 0 (by decide)
        have hv1 : vals 1 = _ := hVs 1 (by decide)
        have hv2 : vals 2 = _ := hVs 2 (by decide)
        have hv3 : vals 3 = _ := hVs 3 (by decide)
        have hv4 : vals 4 = _ := hVs 4 (by decide)
        have hv5 : vals 5 = _ := hVs 5 (by decide)
        have hv6 : vals 6 = _ := hVs 6 (by decide)
        have hv7 : vals 7 = _ := hVs 7 (by decide)
        have hv8 : vals 8 = _ := hVs 8 (by decide)
        have hv9 : vals 9 = _ := hVs 9 (by decide)
        rw [show (List.filterMap (fun i => Option.map (fun t => (t, vals i)) (dstAt _ i)) (List.range _)) = [(44, .agg #[.int .i64 Pf, .int .i64 Mf, .slice Af mf.length kf]), (45, .slice A53 x52.length k54), (46, .slice A53 x52.length k54), (47, .int .i64 ((x52.length : Nat) : Int)), (48, .int .i64 (((x52.length : Nat) : Int) - (1 : Int))), (49, .pointer (some ((adOf A53).add ((((x52.length : Nat) : Int) - (1 : Int)).toNat)))), (50, .int .i64 (gi x52 (((x52.length : Nat) : Int) - (1 : Int)))), (51, .int .i64 r31), (52, .int .i64 r73), (13, .int .i64 r73)] from by
          show [(44, vals 0), (45, vals 1), (46, vals 2), (47, vals 3), (48, vals 4), (49, vals 5), (50, vals 6), (51, vals 7), (52, vals 8), (13, vals 9)] = _
          rw [hv0, hv1, hv2, hv3, hv4, hv5, hv6, hv7, hv8, hv9]]
        refine WA.done (by decide +kernel) ?_
        refine W.seq ?_
        refine W.region ?_
        refine WL.move rfl rfl ?_
        refine WL.move rfl rfl ?_
        refine WL.move rfl rfl ?_
        obtain ⟨o78, hv⟩ := hv
        refine SL.index Try.underlying22 Try.el3 (hS.rd (i := 1) rfl) rfl rfl o78 rfl ?_
        refine SL.store (cs' := is (si x51 ((((x52.length : Nat) : Int) - (1 : Int)) - (((x14.length : Nat) : Int) - (1 : Int))) r73)) 1 ((((x52.length : Nat) : Int) - (1 : Int)) - (((x14.length : Nat) : Int) - (1 : Int))).toNat hS rfl Try.el3 rfl rfl rfl (is_lt (hS.rd (i := 1) rfl) o78) (is_set _ _ _) ?_
        intro w79 hS
        refine WL.done ?_
        obtain ⟨x87, o94, hv⟩ := hv
        obtain ⟨x97, o104, hv⟩ := hv
        obtain ⟨x106, o113, hv⟩ := hv
        obtain ⟨x115, o122, hv⟩ := hv
        have hS0 := hS
        refine W.drawX 12 (fun iA => [false, false, false, false, false, false, true, false, true, true, true, false].getD iA false) (fun iC => match iC with | 11 => some 10 | _ => none) [⟨[], [3], false⟩, ⟨[], [8], true⟩, ⟨[], [3], false⟩, ⟨[], [3], false⟩, ⟨[], [13], true⟩, ⟨[], [2], true⟩, ⟨[3, 4, 5], [], false⟩, ⟨[], [12], true⟩, ⟨[7], [], false⟩, ⟨[2, 6, 8], [], false⟩, ⟨[0, 1, 9], [], false⟩, ⟨[10], [], true⟩] [[(3, .pointer (some ⟨g11, 0, none⟩))], [(8, .slice A53 x52.length k54)], [(3, .pointer (some ⟨g11, 0, none⟩))], [(3, .pointer (some ⟨g11, 0, none⟩))], [(13, .int .i64 r73)], [(2, .slice A15 x14.length k16)], [], [(12, .int .i64 ((((x52.length : Nat) : Int) - (1 : Int)) - (((x14.length : Nat) : Int) - (1 : Int))))], [], [], [], []] (fun iQ => [fun v _ => v = .agg #[.int .i64 Pf, .int .i64 Mf, .slice Af mf.length kf], fun v _ => v = .slice A53 x52.length k54, fun v _ => v = .agg #[.int .i64 Pf, .int .i64 Mf, .slice Af mf.length kf], fun v _ => v = .agg #[.int .i64 Pf, .int .i64 Mf, .slice Af mf.length kf], fun v _ => v = .int .i64 r73, fun v _ => v = .slice A15 x14.length k16, fun v wQ => ∃ A88_6 k89_6, v = .slice A88_6 x87.length k89_6 ∧ Own 0 wQ 3 1 A88_6 x87.length k89_6 (is x87) ∧ (∀ g, bl A88_6 = some g → w79.heap.size ≤ g), fun v _ => v = .int .i64 ((((x52.length : Nat) : Int) - (1 : Int)) - (((x14.length : Nat) : Int) - (1 : Int))), fun v wQ => ∃ A98_8 k99_8, v = .slice A98_8 x97.length k99_8 ∧ Own 0 wQ 3 1 A98_8 x97.length k99_8 (is x97) ∧ (∀ g, bl A98_8 = some g → w79.heap.size ≤ g), fun v wQ => ∃ A107_9 k108_9, v = .slice A107_9 x106.length k108_9 ∧ Own 0 wQ 3 1 A107_9 x106.length k108_9 (is x106) ∧ (∀ g, bl A107_9 = some g → w79.heap.size ≤ g), fun v wQ => ∃ A116_10 k117_10, v = .slice A116_10 x115.length k117_10 ∧ Own 0 wQ 3 1 A116_10 x115.length k117_10 (is x115) ∧ (∀ g, bl A116_10 = some g → w79.heap.size ≤ g), fun v wQ => ∃ A116_10_11 k117_10_11, v = .slice A116_10_11 x115.length k117_10_11 ∧ Own 0 wQ 3 1 A116_10_11 x115.length k117_10_11 (is x115) ∧ (∀ g, bl A116_10_11 = some g → w79.heap.size ≤ g)].getD iQ (fun _ _ => True)) Try.mixed (by kernel_rfl) ?_ (by kernel_rfl) ?_ ?_
        · refine Vs_monoT _ ?_
          intro VQ hVQ vQ wQ1 wQ2 hQ1 hQ2
          simp only [List.mem_cons, List.not_mem_nil, or_false] at hVQ
          rcases hVQ with rfl | rfl | rfl | rfl | rfl | rfl | rfl | rfl | rfl | rfl | rfl | rfl
          · exact hQ1
          · exact hQ1
          · exact hQ1
          · exact hQ1
          · exact hQ1
          · exact hQ1
          · obtain ⟨A88_6, k89_6, hQe, hO92_6, hN93_6⟩ := hQ1
            exact ⟨A88_6, k89_6, hQe, hO92_6.ext hQ2, hN93_6⟩
          · exact hQ1
          · obtain ⟨A98_8, k99_8, hQe, hO102_8, hN103_8⟩ := hQ1
            exact ⟨A98_8, k99_8, hQe, hO102_8.ext hQ2, hN103_8⟩
          · obtain ⟨A107_9, k108_9, hQe, hO111_9, hN112_9⟩ := hQ1
            exact ⟨A107_9, k108_9, hQe, hO111_9.ext hQ2, hN112_9⟩
          · obtain ⟨A116_10, k117_10, hQe, hO120_10, hN121_10⟩ := hQ1
            exact ⟨A116_10, k117_10, hQe, hO120_10.ext hQ2, hN121_10⟩
          · obtain ⟨A116_10_11, k117_10_11, hQe, hO120_10_11, hN121_10_11⟩ := hQ1
            exact ⟨A116_10_11, k117_10_11, hQe, hO120_10_11.ext hQ2, hN121_10_11⟩
        · refine ⟨⟨rfl, ⟨rfl, trivial⟩, ?_⟩, ⟨rfl, ⟨rfl, trivial⟩, ?_⟩, ⟨rfl, ⟨rfl, trivial⟩, ?_⟩, ⟨rfl, ⟨rfl, trivial⟩, ?_⟩, ⟨rfl, ⟨rfl, trivial⟩, ?_⟩, ⟨rfl, ⟨rfl, trivial⟩, ?_⟩, ⟨rfl, trivial, ?_⟩, ⟨rfl, ⟨rfl, trivial⟩, ?_⟩, ⟨rfl, trivial, ?_⟩, ⟨rfl, trivial, ?_⟩, ⟨rfl, trivial, ?_⟩, ⟨rfl, trivial, ?_⟩, trivial⟩
          · intro w80 hE
            have hE := hE rfl
            have hS := hS.grow hE
            intro RR
            refine WL.loadV (cs := [.int .i64 Pf, .int .i64 Mf, .slice Af mf.length kf]) Try.el24 Try.agg24 rfl rfl (Own.vcells (hS.own (i := 3) rfl)) rfl ?_
            exact WL.done ⟨_, rfl, ext_refl _, rfl, (fun h => absurd h (by decide)), (fun j h => by cases h)⟩
          · intro w81 hE
            intro RR
            refine WL.move rfl rfl ?_
            exact WL.done ⟨_, rfl, rfl, rfl, (fun h => absurd h (by decide)), (fun j h => by cases h)⟩
          · intro w82 hE
            have hE := hE rfl
            have hS := hS.grow hE
            intro RR
            refine WL.loadV (cs := [.int .i64 Pf, .int .i64 Mf, .slice Af mf.length kf]) Try.el24 Try.agg24 rfl rfl (Own.vcells (hS.own (i := 3) rfl)) rfl ?_
            exact WL.done ⟨_, rfl, ext_refl _, rfl, (fun h => absurd h (by decide)), (fun j h => by cases h)⟩
          · intro w83 hE
            have hE := hE rfl
            have hS := hS.grow hE
            intro RR
            refine WL.loadV (cs := [.int .i64 Pf, .int .i64 Mf, .slice Af mf.length kf]) Try.el24 Try.agg24 rfl rfl (Own.vcells (hS.own (i := 3) rfl)) rfl ?_
            exact WL.done ⟨_, rfl, ext_refl _, rfl, (fun h => absurd h (by decide)), (fun j h => by cases h)⟩
          · intro w84 hE
            intro RR
            refine WL.move rfl rfl ?_
            exact WL.done ⟨_, rfl, rfl, rfl, (fun h => absurd h (by decide)), (fun j h => by cases h)⟩
          · intro w85 hE
            intro RR
            refine WL.move rfl rfl ?_
            exact WL.done ⟨_, rfl, rfl, rfl, (fun h => absurd h (by decide)), (fun j h => by cases h)⟩
          · intro w86 hE
            have hE := hE rfl
            have hS := hS.grow hE
            rintro _ rfl
            rintro _ rfl
            rintro _ rfl
            intro RR
            refine WL.call Try.func34 rfl Try.nm34 rfl rfl (calls_un (ok_rpscale (hS.ro hf) (hS.rd (i := 2) rfl) o94)) ?_
            rintro _ w91 ⟨_, hGw91, hRww91, hNww91, x87q, A88, k89, rfl, rfl, he⟩
            subst he
            have hO92 := (hRww91.get (i := 0) rfl).1
            have hN93 : ∀ g, bl A88 = some g → _ ≤ g := fun g hg => Nat.le_trans hE.size (hNww91.1 g hg)
            exact WL.done ⟨_, rfl, hGw91, ⟨A88, k89, rfl, hO92, hN93⟩, (fun _ => fun g hg => ⟨hNww91.1 g hg, (hO92.bl_ge g hg).2⟩), (fun j h => by cases h)⟩
          · intro w95 hE
            intro RR
            refine WL.move rfl rfl ?_
            exact WL.done ⟨_, rfl, rfl, rfl, (fun h => absurd h (by decide)), (fun j h => by cases h)⟩
          · intro w96 hE
            have hE := hE rfl
            have hS := hS.grow hE
            rintro _ rfl
            intro RR
            refine WL.call Try.func100 rfl Try.nm100 rfl rfl (calls_un (ok_rpower  o104)) ?_
            rintro _ w101 ⟨_, hGw101, hRww101, hNww101, x97q, A98, k99, rfl, rfl, he⟩
            subst he
            have hO102 := (hRww101.get (i := 0) rfl).1
            have hN103 : ∀ g, bl A98 = some g → _ ≤ g := fun g hg => Nat.le_trans hE.size (hNww101.1 g hg)
            exact WL.done ⟨_, rfl, hGw101, ⟨A98, k99, rfl, hO102, hN103⟩, (fun _ => fun g hg => ⟨hNww101.1 g hg, (hO102.bl_ge g hg).2⟩), (fun j h => by cases h)⟩
          · intro w105 hE
            have hE := hE rfl
            have hS := hS.grow hE
            rintro _ rfl
            rintro _ ⟨A88_6, k89_6, rfl, hO92_6, hN93_6⟩
            rintro _ ⟨A98_8, k99_8, rfl, hO102_8, hN103_8⟩
            intro RR
            refine WL.call Try.func31 rfl Try.nm31 rfl rfl (calls_un (ok_rpmul (hS.ro hf) hO92_6.rd hO102_8.rd o113)) ?_
            rintro _ w110 ⟨_, hGw110, hRww110, hNww110, x106q, A107, k108, rfl, rfl, he⟩
            subst he
            have hO111 := (hRww110.get (i := 0) rfl).1
            have hN112 : ∀ g, bl A107 = some g → _ ≤ g := fun g hg => Nat.le_trans hE.size (hNww110.1 g hg)
            exact WL.done ⟨_, rfl, hGw110, ⟨A107, k108, rfl, hO111, hN112⟩, (fun _ => fun g hg => ⟨hNww110.1 g hg, (hO111.bl_ge g hg).2⟩), (fun j h => by cases h)⟩
          · intro w114 hE
            have hE := hE rfl
            have hS := hS.grow hE
            rintro _ rfl
            rintro _ rfl
            rintro _ ⟨A107_9, k108_9, rfl, hO111_9, hN112_9⟩
            intro RR
            refine WL.call Try.func30 rfl Try.nm30 rfl rfl (calls_un (ok_rpsub (hS.ro hf) (hS.rd (i := 0) rfl) hO111_9.rd o122)) ?_
            rintro _ w119 ⟨_, hGw119, hRww119, hNww119, x115q, A116, k117, rfl, rfl, he⟩
            subst he
            have hO120 := (hRww119.get (i := 0) rfl).1
            have hN121 : ∀ g, bl A116 = some g → _ ≤ g := fun g hg => Nat.le_trans hE.size (hNww119.1 g hg)
            exact WL.done ⟨_, rfl, hGw119, ⟨A116, k117, rfl, hO120, hN121⟩, (fun _ => fun g hg => ⟨hNww119.1 g hg, (hO120.bl_ge g hg).2⟩), (fun j h => by cases h)⟩
          · intro w123 hE
            rintro _ ⟨A116_10, k117_10, rfl, hO120_10, hN121_10⟩
            intro RR
            refine WL.assign rfl rfl ?_
            exact WL.done ⟨_, rfl, rfl, ⟨A116_10, k117_10, rfl, hO120_10, hN121_10⟩, (fun h => absurd h (by decide)), (fun j h => by cases h; rfl)⟩
        · intro vals w124 hT hVs hAp hCp
          have hS := hS.grow hT
          have hv0 : vals 0 = _ := hVs 0 (by decide)
          have hv1 : vals 1 = _ := hVs 1 (by decide)
          have hv2 : vals 2 = _ := hVs 2 (by decide)
          have hv3 : vals 3 = _ := hVs 3 (by decide)
          have hv4 : vals 4 = _ := hVs 4 (by decide)
          have hv5 : vals 5 = _ := hVs 5 (by decide)
          obtain ⟨A88_6, k89_6, hv6, hO92_6, hN93_6⟩ := hVs 6 (by decide)
          have hv7 : vals 7 = _ := hVs 7 (by decide)
          obtain ⟨A98_8, k99_8, hv8, hO102_8, hN103_8⟩ := hVs 8 (by decide)
          obtain ⟨A107_9, k108_9, hv9, hO111_9, hN112_9⟩ := hVs 9 (by decide)
          obtain ⟨A116_10, k117_10, hv10, hO120_10, hN121_10⟩ := hVs 10 (by decide)
          have hv11 : vals 11 = .slice A116_10 x115.length k117_10 := (hCp 11 10 (by decide) rfl).trans hv10
          have hS := St.addOwn [] hS0 hS hO120_10 hN121_10 (fun s hs => by cases hs)
          change St _ _ _ _ [.row 3 1 A116_10 x115.length k117_10 (is x115), .row 3 1 A53 x52.length k54 (is x52), .row 3 1 A38 ((max (((x19.length : Nat) : Int) - (((x14.length : Nat) : Int) - (1 : Int))) (0 : Int)).toNat) ((max (((x19.length : Nat) : Int) - (((x14.length : Nat) : Int) - (1 : Int))) (0 : Int)).toNat) (is (si x51 ((((x52.length : Nat) : Int) - (1 : Int)) - (((x14.length : Nat) : Int) - (1 : Int))) r73)), .row 3 1 A15 x14.length k16 (is x14), .row 24 3 (some ⟨g11, 0, none⟩) 1 1 [.int .i64 Pf, .int .i64 Mf, .slice Af mf.length kf]] at hS
          rw [show (List.filterMap (fun i => Option.map (fun t => (t, vals i)) (dstAt _ i)) (List.range _)) = [(57, .agg #[.int .i64 Pf, .int .i64 Mf, .slice Af mf.length kf]), (58, .slice A53 x52.length k54), (59, .agg #[.int .i64 Pf, .int .i64 Mf, .slice Af mf.length kf]), (60, .agg #[.int .i64 Pf, .int .i64 Mf, .slice Af mf.length kf]), (61, .int .i64 r73), (62, .slice A15 x14.length k16), (63, .slice A88_6 x87.length k89_6), (64, .int .i64 ((((x52.length : Nat) : Int) - (1 : Int)) - (((x14.length : Nat) : Int) - (1 : Int)))), (65, .slice A98_8 x97.length k99_8), (66, .slice A107_9 x106.length k108_9), (67, .slice A116_10 x115.length k117_10), (8, .slice A116_10 x115.length k117_10)] from by
            show [(57, vals 0), (58, vals 1), (59, vals 2), (60, vals 3), (61, vals 4), (62, vals 5), (63, vals 6), (64, vals 7), (65, vals 8), (66, vals 9), (67, vals 10), (8, vals 11)] = _
            rw [hv0, hv1, hv2, hv3, hv4, hv5, hv6, hv7, hv8, hv9, hv10, hv11]]
          refine WA.done (by decide +kernel) ?_
          have hS := hS.pick [0, 2, 3, 4] rfl
          change St _ _ _ _ [.row 3 1 A116_10 x115.length k117_10 (is x115), .row 3 1 A38 ((max (((x19.length : Nat) : Int) - (((x14.length : Nat) : Int) - (1 : Int))) (0 : Int)).toNat) ((max (((x19.length : Nat) : Int) - (((x14.length : Nat) : Int) - (1 : Int))) (0 : Int)).toNat) (is (si x51 ((((x52.length : Nat) : Int) - (1 : Int)) - (((x14.length : Nat) : Int) - (1 : Int))) r73)), .row 3 1 A15 x14.length k16 (is x14), .row 24 3 (some ⟨g11, 0, none⟩) 1 1 [.int .i64 Pf, .int .i64 Mf, .slice Af mf.length kf]] at hS
          exact ⟨(si x51 ((((x52.length : Nat) : Int) - (1 : Int)) - (((x14.length : Nat) : Int) - (1 : Int))) r73, x115, A116_10, k117_10), ⟨rfl, rfl, rfl, rfl, rfl, rfl, rfl, rfl, trivial⟩, hv.2, rfl, hv.1, hS⟩
    · have hv := hv.2 (of_decide_eq_false c59)
      refine W.exit ?_
      refine W.seq ?_
      refine W.region ?_
      refine WL.loadV (cs := [.int .i64 Pf, .int .i64 Mf, .slice Af mf.length kf]) Try.el24 Try.agg24 rfl rfl (Own.vcells (hS.own (i := 3) rfl)) rfl ?_
      refine WL.move rfl rfl ?_
      refine SL.call hS (ok_rcanon (hS.ro hf) (hS.rd (i := 1) rfl) hv) Try.func24 rfl Try.nm24 rfl rfl ?_
      rintro _ _ w126 ⟨x127, A128, k129, rfl, rfl, hv⟩ hGw126 hS
      change St _ _ _ _ [.row 3 1 A128 x127.length k129 (is x127), .row 3 1 A53 x52.length k54 (is x52), .row 3 1 A38 ((max (((x19.length : Nat) : Int) - (((x14.length : Nat) : Int) - (1 : Int))) (0 : Int)).toNat) ((max (((x19.length : Nat) : Int) - (((x14.length : Nat) : Int) - (1 : Int))) (0 : Int)).toNat) (is x51), .row 3 1 A15 x14.length k16 (is x14), .row 24 3 (some ⟨g11, 0, none⟩) 1 1 [.int .i64 Pf, .int .i64 Mf, .slice Af mf.length kf]] at hS
      refine WL.move rfl rfl ?_
      refine WL.assign rfl rfl ?_
      refine WL.assign rfl rfl ?_
      refine WL.done ?_
      refine W.ret ?_
      refine ⟨_, rfl, Fin.nil ?_⟩
      exact ⟨_, hS.ext, (hS.pick [0, 1] rfl).rows, News.of (hS.pick [0, 1] rfl).rows rfl, ⟨x127, x52, A128, k129, A53, k54, rfl, rfl, hv⟩⟩

def V_reval (Pf : Int) (Mf : Int) (mf : List Int) (p : List Int) (x : Int) (Q : Int → Prop) : Prop :=
  ∃ (I22 : Int → Int → Int → Prop) (μ23 : Int → Int → Int → Nat), I22 (0 : Int) (1 : Int) (0 : Int) ∧ ∀ (z19 : Int) (z20 : Int) (z21 : Int), (I22 z19 z20 z21 → (((z21 < ((p.length : Nat) : Int)) → ((0 ≤ z21 ∧ z21 < (p.length : Nat)) ∧ (∃ (r36 : Int), V_rMul Pf Mf mf (gi p z21) z20 (fun q => q = r36) ∧ (∃ (r40 : Int), V_rAdd Pf Mf mf z19 r36 (fun q => q = r40) ∧ (V_rMul Pf Mf mf z20 x (fun r46 => (I64 (z21 + (1 : Int))) ∧ (I22 r40 r46 (z21 + (1 : Int)) ∧ μ23 r40 r46 (z21 + (1 : Int)) < μ23 z19 z20 z21))))))) ∧ (¬ (z21 < ((p.length : Nat) : Int)) → Q z19)))
theorem ok_reval {w : World} {Q : Int → Prop} {Pf : Int} {Mf : Int} {mf : List Int} {p : List Int} {x : Int} {Bf : Nat} {Af : Option Addr} {nf kf : Nat} (hf : Rd Bf w 1 Af nf kf (is mf)) {Bp : Nat} {Ap : Option Addr} {np kp : Nat} (hp : Rd Bp w 1 Ap np kp (is p)) (hv : V_reval Pf Mf mf p x Q) :
    Calls Try.prog 45 #[.agg #[.int .i64 Pf, .int .i64 Mf, .slice Af nf kf], .slice Ap np kp, .int .i64 x] w fun e w' => ∃ v Qr, e = .returned v ∧ w.grownBy w' none ∧ Rows w.heap.size none w' Qr ∧ News w.heap.size Qr ∧ ∃ (r0 : Int), v = .int .i64 r0 ∧ Qr = [] ∧ Q r0 := by
  have hnf := hf.ilen
  subst hnf
  have hnp := hp.ilen
  subst hnp
  refine calls_swap ?_
  refine calls_of_W (vs := [.agg #[.int .i64 Pf, .int .i64 Mf, .slice Af mf.length kf], .slice Ap p.length kp, .int .i64 x]) [6] Try.func45 rfl rfl rfl rfl ?_
  have hS := St.start w
  unfold V_reval at hv
  refine W.seq ?_
  refine W.region ?_
  refine SL.box (z := 3) (cs := [.int .i64 Pf, .int .i64 Mf, .slice Af mf.length kf]) hS rfl rfl rfl rfl ?_
  intro g11 w12 hS
  refine WL.assign rfl rfl ?_
  refine WL.done ?_
  refine W.seq ?_
  refine W.region ?_
  refine WL.assign rfl rfl ?_
  refine WL.done ?_
  refine W.seq ?_
  refine W.region ?_
  refine WL.assign rfl rfl ?_
  refine WL.done ?_
  refine W.seq ?_
  refine W.seq ?_
  refine W.region ?_
  refine WL.assign rfl rfl ?_
  refine WL.done ?_
  refine W.block ?_
  obtain ⟨I22, μ23, hv, hk48⟩ := hv
  change St _ _ _ _ [.row 24 3 (some ⟨g11, 0, none⟩) 1 1 [.int .i64 Pf, .int .i64 Mf, .slice Af mf.length kf]] at hS
  refine W.loop (σ := Int × Int × Int) (fun q w1 => match q with | (z19, z20, z21) => I22 z19 z20 z21 ∧ St TT w none w1 [.row 24 3 (some ⟨g11, 0, none⟩) 1 1 [.int .i64 Pf, .int .i64 Mf, .slice Af mf.length kf]]) (fun q => match q with | (z19, z20, z21) => [(1, .slice Ap p.length kp), (2, .int .i64 x), (3, .pointer (some ⟨g11, 0, none⟩)), (6, .int .i64 (0 : Int)), (7, .int .i64 z19), (8, .int .i64 z20), (9, .int .i64 z21)]) (fun q => match q with | (z19, z20, z21) => μ23 z19 z20 z21) ((0 : Int), (1 : Int), (0 : Int)) ⟨hv, hS⟩ ⟨rfl, rfl, rfl, rfl, rfl, rfl, rfl, trivial⟩ ?_
  rintro ⟨z19, z20, z21⟩ w24 ⟨hv, hS⟩
  have hv := hk48 z19 z20 z21 hv
  refine W.seq ?_
  refine W.seq ?_
  refine W.region ?_
  refine WL.move rfl rfl ?_
  refine WL.move rfl rfl ?_
  refine WL.len Try.underlying22 rfl rfl ?_
  refine WL.lssD rfl rfl rfl ?_
  refine WL.done ?_
  refine W.cond2 rfl (fun c25 => ?_) (fun c25 => ?_)
  · have hv := hv.1 (of_decide_eq_true c25)
    refine W.skip ?_
    refine W.seq ?_
    refine W.block ?_
    refine W.seq ?_
    obtain ⟨o32, hv⟩ := hv
    obtain ⟨r36, o38, hv⟩ := hv
    obtain ⟨r40, o42, hv⟩ := hv
    have hS0 := hS
    refine W.drawX 11 (fun _ => false) (fun _ => none) [⟨[], [3], false⟩, ⟨[], [7], true⟩, ⟨[], [3], false⟩, ⟨[], [1], true⟩, ⟨[], [9], true⟩, ⟨[3, 4], [], true⟩, ⟨[5], [], false⟩, ⟨[], [8], true⟩, ⟨[2, 6, 7], [], false⟩, ⟨[0, 1, 8], [], false⟩, ⟨[9], [], true⟩] [[(3, .pointer (some ⟨g11, 0, none⟩))], [(7, .int .i64 z19)], [(3, .pointer (some ⟨g11, 0, none⟩))], [(1, .slice Ap p.length kp)], [(9, .int .i64 z21)], [], [], [(8, .int .i64 z20)], [], [], []] (fun iQ => [fun v _ => v = .agg #[.int .i64 Pf, .int .i64 Mf, .slice Af mf.length kf], fun v _ => v = .int .i64 z19, fun v _ => v = .agg #[.int .i64 Pf, .int .i64 Mf, .slice Af mf.length kf], fun v _ => v = .slice Ap p.length kp, fun v _ => v = .int .i64 z21, fun v _ => v = .pointer (some ((adOf Ap).add z21.toNat)), fun v _ => v = .int .i64 (gi p z21), fun v _ => v = .int .i64 z20, fun v _ => v = .int .i64 r36, fun v _ => v = .int .i64 r40, fun v _ => v = .int .i64 r40].getD iQ (fun _ _ => True)) Try.mixed (by kernel_rfl) ?_ (by kernel_rfl) ?_ ?_
    · refine Vs_monoT _ ?_
      intro VQ hVQ vQ wQ1 wQ2 hQ1 hQ2
      simp only [List.mem_cons, List.not_mem_nil, or_false] at hVQ
      rcases hVQ with rfl | rfl | rfl | rfl | rfl | rfl | rfl | rfl | rfl | rfl | rfl
      · exact hQ1
      · exact hQ1
      · exact hQ1
      · exact hQ1
      · exact hQ1
      · exact hQ1
      · exact hQ1
      · exact hQ1
      · exact hQ1
      · exact hQ1
      · exact hQ1
    · refine ⟨⟨rfl, ⟨rfl, trivial⟩, ?_⟩, ⟨rfl, ⟨rfl, trivial⟩, ?_⟩, ⟨rfl, ⟨rfl, trivial⟩, ?_⟩, ⟨rfl, ⟨rfl, trivial⟩, ?_⟩, ⟨rfl, ⟨rfl, trivial⟩, ?_⟩, ⟨rfl, trivial, ?_⟩, ⟨rfl, trivial, ?_⟩, ⟨rfl, ⟨rfl, trivial⟩, ?_⟩, ⟨rfl, trivial, ?_⟩, ⟨rfl, trivial, ?_⟩, ⟨rfl, trivial, ?_⟩, trivial⟩
      · intro w26 hE
        have hE := hE rfl
        have hS := hS.grow hE
        intro RR
        refine WL.loadV (cs := [.int .i64 Pf, .int .i64 Mf, .slice Af mf.length kf]) Try.el24 Try.agg24 rfl rfl (Own.vcells (hS.own (i := 0) rfl)) rfl ?_
        exact WL.done ⟨_, rfl, ext_refl _, rfl, (fun h => absurd h (by decide)), (fun j h => by cases h)⟩
      · intro w27 hE
        intro RR
        refine WL.move rfl rfl ?_
        exact WL.done ⟨_, rfl, rfl, rfl, (fun h => absurd h (by decide)), (fun j h => by cases h)⟩
      · intro w28 hE
        have hE := hE rfl
        have hS := hS.grow hE
        intro RR
        refine WL.loadV (cs := [.int .i64 Pf, .int .i64 Mf, .slice Af mf.length kf]) Try.el24 Try.agg24 rfl rfl (Own.vcells (hS.own (i := 0) rfl)) rfl ?_
        exact WL.done ⟨_, rfl, ext_refl _, rfl, (fun h => absurd h (by decide)), (fun j h => by cases h)⟩
      · intro w29 hE
        intro RR
        refine WL.move rfl rfl ?_
        exact WL.done ⟨_, rfl, rfl, rfl, (fun h => absurd h (by decide)), (fun j h => by cases h)⟩
      · intro w30 hE
        intro RR
        refine WL.move rfl rfl ?_
        exact WL.done ⟨_, rfl, rfl, rfl, (fun h => absurd h (by decide)), (fun j h => by cases h)⟩
      · intro w31 hE
        rintro _ rfl
        rintro _ rfl
        intro RR
        refine SL.index Try.underlying22 Try.el3 (hS.ro hp) rfl rfl o32 rfl ?_
        exact WL.done ⟨_, rfl, rfl, rfl, (fun h => absurd h (by decide)), (fun j h => by cases h)⟩
      · intro w33 hE
        have hE := hE rfl
        have hS := hS.grow hE
        rintro _ rfl
        intro RR
        refine WL.load Try.underlying3 rfl rfl (Rd.gi (hS.ro hp) o32) rfl ?_
        exact WL.done ⟨_, rfl, ext_refl _, rfl, (fun h => absurd h (by decide)), (fun j h => by cases h)⟩
      · intro w34 hE
        intro RR
        refine WL.move rfl rfl ?_
        exact WL.done ⟨_, rfl, rfl, rfl, (fun h => absurd h (by decide)), (fun j h => by cases h)⟩
      · intro w35 hE
        have hE := hE rfl
        have hS := hS.grow hE
        rintro _ rfl
        rintro _ rfl
        rintro _ rfl
        intro RR
        refine WL.call Try.func47 rfl Try.nm47 rfl rfl (calls_un (ok_rMul (hS.ro hf) o38)) ?_
        rintro _ w37 ⟨_, hGw37, hRww37, hNww37, r36q, rfl, rfl, he⟩
        subst he
        exact WL.done ⟨_, rfl, hGw37, rfl, (fun h => absurd h (by decide)), (fun j h => by cases h)⟩
      · intro w39 hE
        have hE := hE rfl
        have hS := hS.grow hE
        rintro _ rfl
        rintro _ rfl
        rintro _ rfl
        intro RR
        refine WL.call Try.func46 rfl Try.nm46 rfl rfl (calls_un (ok_rAdd (hS.ro hf) o42)) ?_
        rintro _ w41 ⟨_, hGw41, hRww41, hNww41, r40q, rfl, rfl, he⟩
        subst he
        exact WL.done ⟨_, rfl, hGw41, rfl, (fun h => absurd h (by decide)), (fun j h => by cases h)⟩
      · intro w43 hE
        rintro _ rfl
        intro RR
        refine WL.assign rfl rfl ?_
        exact WL.done ⟨_, rfl, rfl, rfl, (fun h => absurd h (by decide)), (fun j h => by cases h)⟩
    · intro vals w44 hT hVs hAp hCp
      have hS := hS.grow hT
      have hv0 : vals 0 = _ := hVs 0 (by decide)
      have hv1 : vals 1 = _ := hVs 1 (by decide)
      have hv2 : vals 2 = _ := hVs 2 (by decide)
      have hv3 : vals 3 = _ := hVs 3 (by decide)
      have hv4 : vals 4 = _ := hVs 4 (by decide)
      have hv5 : vals 5 = _ := hVs 5 (by decide)
      have hv6 : vals 6 = _ := hVs 6 (by decide)
      have hv7 : vals 7 = _ := hVs 7 (by decide)
      have hv8 : vals 8 = _ := hVs 8 (by decide)
      have hv9 : vals 9 = _ := hVs 9 (by decide)
      have hv10 : vals 10 = _ := hVs 10 (by decide)
      rw [show (List.filterMap (fun i => Option.map (fun t => (t, vals i)) (dstAt _ i)) (List.range _)) = [(16, .agg #[.int .i64 Pf, .int .i64 Mf, .slice Af mf.length kf]), (17, .int .i64 z19), (18, .agg #[.int .i64 Pf, .int .i64 Mf, .slice Af mf.length kf]), (19, .slice Ap p.length kp), (20, .int .i64 z21), (21, .pointer (some ((adOf Ap).add z21.toNat))), (22, .int .i64 (gi p z21)), (23, .int .i64 z20), (24, .int .i64 r36), (25, .int .i64 r40), (7, .int .i64 r40)] from by
        show [(16, vals 0), (17, vals 1), (18, vals 2), (19, vals 3), (20, vals 4), (21, vals 5), (22, vals 6), (23, vals 7), (24, vals 8), (25, vals 9), (7, vals 10)] = _
        rw [hv0, hv1, hv2, hv3, hv4, hv5, hv6, hv7, hv8, hv9, hv10]]
      refine WA.done (by decide +kernel) ?_
      refine W.region ?_
      refine WL.loadV (cs := [.int .i64 Pf, .int .i64 Mf, .slice Af mf.length kf]) Try.el24 Try.agg24 rfl rfl (Own.vcells (hS.own (i := 0) rfl)) rfl ?_
      refine WL.move rfl rfl ?_
      refine WL.move rfl rfl ?_
      refine SL.call hS (ok_rMul (hS.ro hf) hv) Try.func47 rfl Try.nm47 rfl rfl ?_
      rintro _ _ w45 ⟨r46, rfl, rfl, hv⟩ hGw45 hS
      change St _ _ _ _ [.row 24 3 (some ⟨g11, 0, none⟩) 1 1 [.int .i64 Pf, .int .i64 Mf, .slice Af mf.length kf]] at hS
      refine WL.assign rfl rfl ?_
      refine WL.done ?_
      refine W.region ?_
      refine WL.move rfl rfl ?_
      obtain ⟨o47, hv⟩ := hv
      refine WL.add (r := (z21 + (1 : Int))) rfl rfl (wr o47) rfl ?_
      refine WL.assign rfl rfl ?_
      refine WL.done ?_
      change St _ _ _ _ [.row 24 3 (some ⟨g11, 0, none⟩) 1 1 [.int .i64 Pf, .int .i64 Mf, .slice Af mf.length kf]] at hS
      exact ⟨(r40, r46, (z21 + (1 : Int))), ⟨rfl, rfl, rfl, rfl, rfl, rfl, rfl, trivial⟩, hv.2, rfl, hv.1, hS⟩
  · have hv := hv.2 (of_decide_eq_false c25)
    refine W.exit ?_
    refine W.seq ?_
    refine W.region ?_
    refine WL.move rfl rfl ?_
    refine WL.assign rfl rfl ?_
    refine WL.done ?_
    refine W.ret ?_
    refine ⟨_, rfl, Fin.nil ?_⟩
    exact ⟨_, hS.ext, (hS.pick [] rfl).rows, News.of (hS.pick [] rfl).rows rfl, ⟨z19, rfl, rfl, hv⟩⟩

end Go.Proofs.Ytmdigamgojfjdaa
