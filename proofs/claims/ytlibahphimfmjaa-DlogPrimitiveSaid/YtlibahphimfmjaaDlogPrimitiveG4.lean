/- Contracts of functions of the program, and what they lean on: D3, D4, D5. -/
import Derived.Test.YtlibahphimfmjaaDlogPrimitiveG3
set_option linter.unusedSimpArgs false
set_option linter.unusedVariables false
namespace Go.Proofs.Ytlibahphimfmjaa
open Go.RowKit
def V_timesX (Pf : Int) (Mf : Int) (mf : List Int) (a : List Int) (Q : List Int → Prop) : Prop :=
  (I64 (Mf - (1 : Int))) ∧ ((0 ≤ (Mf - (1 : Int)) ∧ (Mf - (1 : Int)) < (a.length : Nat)) ∧ ((0 ≤ (1 : Int) ∧ (1 : Int) ≤ (a.length : Nat)) ∧ ((0 ≤ (0 : Int) ∧ (0 : Int) < (a.length : Nat)) ∧ ((((gi a (Mf - (1 : Int))) = (0 : Int)) → (Q (si (a.take ((1 : Int).toNat) ++ a.take (min a.length (a.length - ((1 : Int).toNat))) ++ a.drop ((1 : Int).toNat + (min a.length (a.length - ((1 : Int).toNat))))) (0 : Int) (0 : Int)))) ∧ (¬ ((gi a (Mf - (1 : Int))) = (0 : Int)) → (∃ (I26 : List Int → Int → Prop) (μ27 : List Int → Int → Nat), I26 (si (a.take ((1 : Int).toNat) ++ a.take (min a.length (a.length - ((1 : Int).toNat))) ++ a.drop ((1 : Int).toNat + (min a.length (a.length - ((1 : Int).toNat))))) (0 : Int) (0 : Int)) (0 : Int) ∧ ∀ (x24 : List Int) (z25 : Int), (I26 x24 z25 → (((z25 < ((mf.length : Nat) : Int)) → ((0 ≤ z25 ∧ z25 < (mf.length : Nat)) ∧ ((0 ≤ z25 ∧ z25 < (a.length : Nat)) ∧ ((I64 (Pf - (gi mf z25))) ∧ ((I64 ((Pf - (gi mf z25)) * (gi a (Mf - (1 : Int))))) ∧ ((I64 ((gi x24 z25) + ((Pf - (gi mf z25)) * (gi a (Mf - (1 : Int)))))) ∧ ((Pf ≠ 0) ∧ ((0 ≤ z25 ∧ z25 < (a.length : Nat)) ∧ ((I64 (z25 + (1 : Int))) ∧ (I26 (si x24 z25 (((gi x24 z25) + ((Pf - (gi mf z25)) * (gi a (Mf - (1 : Int))))).tmod Pf)) (z25 + (1 : Int)) ∧ μ27 (si x24 z25 (((gi x24 z25) + ((Pf - (gi mf z25)) * (gi a (Mf - (1 : Int))))).tmod Pf)) (z25 + (1 : Int)) < μ27 x24 z25)))))))))) ∧ (¬ (z25 < ((mf.length : Nat) : Int)) → Q x24)))))))))
theorem ok_timesX {w : World} {Q : List Int → Prop} {Pf : Int} {Mf : Int} {mf : List Int} {a : List Int} {Bf : Nat} {Af : Option Addr} {nf kf : Nat} (hf : Rd Bf w 1 Af nf kf (is mf)) {Aa : Option Addr} {na ka : Nat} (ha : Own 0 w 3 1 Aa na ka (is a)) (hapf : 0 < nf → ∀ g, bl Aa = some g → bl Af ≠ some g) (hv : V_timesX Pf Mf mf a Q) :
    Calls Try.prog 90 #[.agg #[.int .i64 Pf, .int .i64 Mf, .slice Af nf kf], .slice Aa na ka] w fun e w' => ∃ v cs', e = .returned v ∧ w.grownBy w' (bl Aa) ∧ Own 0 w' 3 1 Aa na ka cs' ∧ ∃ x : List Int, v = .tuple #[] ∧ cs' = is x ∧ Q x := by
  have hnf := hf.ilen
  subst hnf
  have hna := ha.rd.ilen
  subst hna
  refine calls_swapM ?_
  refine calls_of_W (vs := [.agg #[.int .i64 Pf, .int .i64 Mf, .slice Af mf.length kf], .slice Aa a.length ka]) [] Try.func90 rfl rfl rfl rfl ?_
  have hS := St.startM ha
  unfold V_timesX at hv
  refine W.seq ?_
  refine W.region ?_
  refine SL.box (z := 3) (cs := [.int .i64 Pf, .int .i64 Mf, .slice Af mf.length kf]) hS rfl rfl rfl rfl ?_
  intro g11 w12 hS
  refine WL.done ?_
  refine W.seq ?_
  refine W.region ?_
  refine WL.move rfl rfl ?_
  refine WL.fieldA (off := 1) Try.fla24_1 rfl rfl ?_
  refine WL.load Try.underlying3 rfl rfl (Own.vcells (hS.own (i := 0) rfl) 1 _ rfl) rfl ?_
  obtain ⟨o13, hv⟩ := hv
  refine WL.sub (r := (Mf - (1 : Int))) rfl rfl (wr o13) rfl ?_
  obtain ⟨o14, hv⟩ := hv
  refine SL.index Try.underlying22 Try.el3 (hS.rd (i := 1) rfl) rfl rfl o14 rfl ?_
  refine WL.load Try.underlying3 rfl rfl (Rd.gi (hS.rd (i := 1) rfl) o14) rfl ?_
  refine WL.assign rfl rfl ?_
  refine WL.done ?_
  refine W.seq ?_
  refine W.region ?_
  refine WL.move rfl rfl ?_
  obtain ⟨o15, hv⟩ := hv
  refine SL.slFrom Try.underlying22 Try.el3 (hS.rd (i := 1) rfl) rfl rfl o15 rfl ?_
  refine WL.move rfl rfl ?_
  refine SL.copy (xs := a) (ys := a) 1 ((1 : Int).toNat) hS rfl Try.underlying22 Try.el3 (hS.rd (i := 1) rfl) rfl (by omega) rfl rfl rfl ?_
  intro w16 hS
  refine WL.done ?_
  refine W.seq ?_
  refine W.region ?_
  refine WL.move rfl rfl ?_
  obtain ⟨o17, hv⟩ := hv
  refine SL.index Try.underlying22 Try.el3 (hS.rd (i := 1) rfl) rfl rfl o17 rfl ?_
  refine SL.store (cs' := is (si (a.take ((1 : Int).toNat) ++ a.take (min a.length (a.length - ((1 : Int).toNat))) ++ a.drop ((1 : Int).toNat + (min a.length (a.length - ((1 : Int).toNat))))) (0 : Int) (0 : Int))) 1 (0 : Int).toNat hS rfl Try.el3 rfl rfl rfl (is_lt (hS.rd (i := 1) rfl) o17) (is_set _ _ _) ?_
  intro w18 hS
  refine WL.done ?_
  refine W.seq ?_
  refine W.seq ?_
  refine W.region ?_
  refine WL.move rfl rfl ?_
  refine WL.eqlD rfl rfl rfl ?_
  refine WL.done ?_
  refine W.cond2 rfl (fun c19 => ?_) (fun c19 => ?_)
  · have hv := hv.1 (of_decide_eq_true c19)
    refine W.ret ?_
    refine ⟨_, rfl, Fin.nil ?_⟩
    exact ⟨_, hS.ext, hS.own (i := 1) rfl, si (a.take ((1 : Int).toNat) ++ a.take (min a.length (a.length - ((1 : Int).toNat))) ++ a.drop ((1 : Int).toNat + (min a.length (a.length - ((1 : Int).toNat))))) (0 : Int) (0 : Int), rfl, rfl, hv⟩
  · have hv := hv.2 (of_decide_eq_false c19)
    refine W.skip ?_
    refine W.seq ?_
    refine W.region ?_
    refine WL.fieldA (off := 2) Try.fla24_2 rfl rfl ?_
    refine WL.load Try.underlying22 rfl rfl (Own.vcells (hS.own (i := 0) rfl) 2 _ rfl) rfl ?_
    refine WL.len Try.underlying22 rfl rfl ?_
    refine WL.move rfl rfl ?_
    refine WL.done ?_
    refine W.block ?_
    obtain ⟨I26, μ27, hv, hk56⟩ := hv
    change St _ _ _ _ [.row 24 3 (some ⟨g11, 0, none⟩) 1 1 [.int .i64 Pf, .int .i64 Mf, .slice Af mf.length kf], .row 3 1 Aa a.length ka (is (si (a.take ((1 : Int).toNat) ++ a.take (min a.length (a.length - ((1 : Int).toNat))) ++ a.drop ((1 : Int).toNat + (min a.length (a.length - ((1 : Int).toNat))))) (0 : Int) (0 : Int)))] at hS
    refine W.loop (σ := List Int × Int) (fun q w1 => match q with | (x24, z25) => I26 x24 z25 ∧ St TT w (bl Aa) w1 [.row 24 3 (some ⟨g11, 0, none⟩) 1 1 [.int .i64 Pf, .int .i64 Mf, .slice Af mf.length kf], .row 3 1 Aa a.length ka (is x24)]) (fun q => match q with | (x24, z25) => [(1, .slice Aa a.length ka), (2, .pointer (some ⟨g11, 0, none⟩)), (4, .int .i64 (gi a (Mf - (1 : Int)))), (22, .slice Af mf.length kf), (23, .int .i64 ((mf.length : Nat) : Int)), (24, .int .i64 z25)]) (fun q => match q with | (x24, z25) => μ27 x24 z25) (si (a.take ((1 : Int).toNat) ++ a.take (min a.length (a.length - ((1 : Int).toNat))) ++ a.drop ((1 : Int).toNat + (min a.length (a.length - ((1 : Int).toNat))))) (0 : Int) (0 : Int), (0 : Int)) ⟨hv, hS⟩ ⟨rfl, rfl, rfl, rfl, rfl, rfl, trivial⟩ ?_
    rintro ⟨x24, z25⟩ w28 ⟨hv, hS⟩
    have hv := hk56 x24 z25 hv
    refine W.seq ?_
    refine W.region ?_
    refine WL.lssD rfl rfl rfl ?_
    refine WL.done ?_
    refine W.seq ?_
    refine W.cond2 rfl (fun c29 => ?_) (fun c29 => ?_)
    · have hv := hv.1 (of_decide_eq_true c29)
      refine W.skip ?_
      refine W.seq ?_
      refine W.block ?_
      refine W.seq ?_
      refine W.region ?_
      refine WL.move rfl rfl ?_
      obtain ⟨o30, hv⟩ := hv
      refine SL.index Try.underlying22 Try.el3 (hS.rom' hf hapf) rfl rfl o30 rfl ?_
      refine WL.load Try.underlying3 rfl rfl (Rd.gi (hS.rom' hf hapf) o30) rfl ?_
      refine WL.assign rfl rfl ?_
      refine WL.assign rfl rfl ?_
      refine WL.done ?_
      obtain ⟨o36, hv⟩ := hv
      obtain ⟨o42, hv⟩ := hv
      obtain ⟨o45, hv⟩ := hv
      obtain ⟨o47, hv⟩ := hv
      obtain ⟨o51, hv⟩ := hv
      have hS0 := hS
      refine W.drawX 16 (fun _ => false) (fun _ => none) [⟨[], [1], true⟩, ⟨[], [5], true⟩, ⟨[], [1], true⟩, ⟨[], [5], true⟩, ⟨[2, 3], [], true⟩, ⟨[4], [], false⟩, ⟨[], [2], true⟩, ⟨[6], [], false⟩, ⟨[], [6], true⟩, ⟨[7, 8], [], true⟩, ⟨[], [4], true⟩, ⟨[9, 10], [], true⟩, ⟨[5, 11], [], true⟩, ⟨[], [2], true⟩, ⟨[13], [], false⟩, ⟨[12, 14], [], true⟩] [[(1, .slice Aa a.length ka)], [(5, .int .i64 z25)], [(1, .slice Aa a.length ka)], [(5, .int .i64 z25)], [], [], [(2, .pointer (some ⟨g11, 0, none⟩))], [], [(6, .int .i64 (gi mf z25))], [], [(4, .int .i64 (gi a (Mf - (1 : Int))))], [], [], [(2, .pointer (some ⟨g11, 0, none⟩))], [], []] (fun iQ => [fun v _ => v = .slice Aa a.length ka, fun v _ => v = .int .i64 z25, fun v _ => v = .slice Aa a.length ka, fun v _ => v = .int .i64 z25, fun v _ => v = .pointer (some ((adOf Aa).add z25.toNat)), fun v _ => v = .int .i64 (gi x24 z25), fun v _ => v = .pointer (some ⟨g11, 0, none⟩), fun v _ => v = .int .i64 Pf, fun v _ => v = .int .i64 (gi mf z25), fun v _ => v = .int .i64 (Pf - (gi mf z25)), fun v _ => v = .int .i64 (gi a (Mf - (1 : Int))), fun v _ => v = .int .i64 ((Pf - (gi mf z25)) * (gi a (Mf - (1 : Int)))), fun v _ => v = .int .i64 ((gi x24 z25) + ((Pf - (gi mf z25)) * (gi a (Mf - (1 : Int))))), fun v _ => v = .pointer (some ⟨g11, 0, none⟩), fun v _ => v = .int .i64 Pf, fun v _ => v = .int .i64 (((gi x24 z25) + ((Pf - (gi mf z25)) * (gi a (Mf - (1 : Int))))).tmod Pf)].getD iQ (fun _ _ => True)) Try.mixed (by kernel_rfl) ?_ (by kernel_rfl) ?_ ?_
      · refine Vs_monoT _ ?_
        intro VQ hVQ vQ wQ1 wQ2 hQ1 hQ2
        simp only [List.mem_cons, List.not_mem_nil, or_false] at hVQ
        rcases hVQ with rfl | rfl | rfl | rfl | rfl | rfl | rfl | rfl | rfl | rfl | rfl | rfl | rfl | rfl | rfl | rfl
        · exact hQ1
        · exact hQ1
        · exact hQ1
        · exact hQ1
        · exact hQ1
        · exact hQ1
        · exact hQ1
        · exact hQ1
        · exact hQ1
        · exact hQ1
        · exact hQ1
        · exact hQ1
        · exact hQ1
        · exact hQ1
        · exact hQ1
        · exact hQ1
      · refine ⟨⟨rfl, ⟨rfl, trivial⟩, ?_⟩, ⟨rfl, ⟨rfl, trivial⟩, ?_⟩, ⟨rfl, ⟨rfl, trivial⟩, ?_⟩, ⟨rfl, ⟨rfl, trivial⟩, ?_⟩, ⟨rfl, trivial, ?_⟩, ⟨rfl, trivial, ?_⟩, ⟨rfl, ⟨rfl, trivial⟩, ?_⟩, ⟨rfl, trivial, ?_⟩, ⟨rfl, ⟨rfl, trivial⟩, ?_⟩, ⟨rfl, trivial, ?_⟩, ⟨rfl, ⟨rfl, trivial⟩, ?_⟩, ⟨rfl, trivial, ?_⟩, ⟨rfl, trivial, ?_⟩, ⟨rfl, ⟨rfl, trivial⟩, ?_⟩, ⟨rfl, trivial, ?_⟩, ⟨rfl, trivial, ?_⟩, trivial⟩
        · intro w31 hE
          intro RR
          refine WL.move rfl rfl ?_
          exact WL.done ⟨_, rfl, rfl, rfl, (fun h => absurd h (by decide)), (fun j h => by cases h)⟩
        · intro w32 hE
          intro RR
          refine WL.move rfl rfl ?_
          exact WL.done ⟨_, rfl, rfl, rfl, (fun h => absurd h (by decide)), (fun j h => by cases h)⟩
        · intro w33 hE
          intro RR
          refine WL.move rfl rfl ?_
          exact WL.done ⟨_, rfl, rfl, rfl, (fun h => absurd h (by decide)), (fun j h => by cases h)⟩
        · intro w34 hE
          intro RR
          refine WL.move rfl rfl ?_
          exact WL.done ⟨_, rfl, rfl, rfl, (fun h => absurd h (by decide)), (fun j h => by cases h)⟩
        · intro w35 hE
          rintro _ rfl
          rintro _ rfl
          intro RR
          refine SL.index Try.underlying22 Try.el3 (hS.rd (i := 1) rfl) rfl rfl o36 rfl ?_
          exact WL.done ⟨_, rfl, rfl, rfl, (fun h => absurd h (by decide)), (fun j h => by cases h)⟩
        · intro w37 hE
          have hE := hE rfl
          have hS := hS.grow hE
          rintro _ rfl
          intro RR
          refine WL.load Try.underlying3 rfl rfl (Rd.gi (hS.rd (i := 1) rfl) o36) rfl ?_
          exact WL.done ⟨_, rfl, ext_refl _, rfl, (fun h => absurd h (by decide)), (fun j h => by cases h)⟩
        · intro w38 hE
          intro RR
          refine WL.fieldA (off := 0) Try.fla24_0 rfl rfl ?_
          exact WL.done ⟨_, rfl, rfl, rfl, (fun h => absurd h (by decide)), (fun j h => by cases h)⟩
        · intro w39 hE
          have hE := hE rfl
          have hS := hS.grow hE
          rintro _ rfl
          intro RR
          refine WL.load Try.underlying3 rfl rfl (Own.vcells (hS.own (i := 0) rfl) 0 _ rfl) rfl ?_
          exact WL.done ⟨_, rfl, ext_refl _, rfl, (fun h => absurd h (by decide)), (fun j h => by cases h)⟩
        · intro w40 hE
          intro RR
          refine WL.move rfl rfl ?_
          exact WL.done ⟨_, rfl, rfl, rfl, (fun h => absurd h (by decide)), (fun j h => by cases h)⟩
        · intro w41 hE
          rintro _ rfl
          rintro _ rfl
          intro RR
          refine WL.sub (r := (Pf - (gi mf z25))) rfl rfl (wr o42) rfl ?_
          exact WL.done ⟨_, rfl, rfl, rfl, (fun h => absurd h (by decide)), (fun j h => by cases h)⟩
        · intro w43 hE
          intro RR
          refine WL.move rfl rfl ?_
          exact WL.done ⟨_, rfl, rfl, rfl, (fun h => absurd h (by decide)), (fun j h => by cases h)⟩
        · intro w44 hE
          rintro _ rfl
          rintro _ rfl
          intro RR
          refine WL.mul (r := ((Pf - (gi mf z25)) * (gi a (Mf - (1 : Int))))) rfl rfl (wr o45) rfl ?_
          exact WL.done ⟨_, rfl, rfl, rfl, (fun h => absurd h (by decide)), (fun j h => by cases h)⟩
        · intro w46 hE
          rintro _ rfl
          rintro _ rfl
          intro RR
          refine WL.add (r := ((gi x24 z25) + ((Pf - (gi mf z25)) * (gi a (Mf - (1 : Int)))))) rfl rfl (wr o47) rfl ?_
          exact WL.done ⟨_, rfl, rfl, rfl, (fun h => absurd h (by decide)), (fun j h => by cases h)⟩
        · intro w48 hE
          intro RR
          refine WL.fieldA (off := 0) Try.fla24_0 rfl rfl ?_
          exact WL.done ⟨_, rfl, rfl, rfl, (fun h => absurd h (by decide)), (fun j h => by cases h)⟩
        · intro w49 hE
          have hE := hE rfl
          have hS := hS.grow hE
          rintro _ rfl
          intro RR
          refine WL.load Try.underlying3 rfl rfl (Own.vcells (hS.own (i := 0) rfl) 0 _ rfl) rfl ?_
          exact WL.done ⟨_, rfl, ext_refl _, rfl, (fun h => absurd h (by decide)), (fun j h => by cases h)⟩
        · intro w50 hE
          rintro _ rfl
          rintro _ rfl
          intro RR
          refine WL.rem (r := (((gi x24 z25) + ((Pf - (gi mf z25)) * (gi a (Mf - (1 : Int))))).tmod Pf)) rfl rfl o51 rfl rfl ?_
          exact WL.done ⟨_, rfl, rfl, rfl, (fun h => absurd h (by decide)), (fun j h => by cases h)⟩
      · intro vals w52 hT hVs hAp hCp
        have hS := hS.grow hT
        have hv0 : vals 0 = _ := hVs 0 (by decide)
        have hv1 : vals 1 = _ := hVs 1 (by decide)
        have hv2 : vals 2 = _ := hVs 2 (by decide)
        have hv3 : vals 3 = _ := hVs 3 (by decide)
        have hv4 : vals 4 = _ := hVs 4 (by decide)
        have hv5 : vals 5 = _ := hVs 5 (by decide)
        have hv6 : vals 6 = _ := hVs 6 (by decide)
        have hv7 : vals 7 = _ := hVs 7 (by decide)
        have hv8 : vals 8 = _ := hVs 8 (by decide)
        have hv9 : vals 9 = _ := hVs 9 (by decide)
        have hv10 : vals 10 = _ := hVs 10 (by decide)
        have hv11 : vals 11 = _ := hVs 11 (by decide)
        have hv12 : vals 12 = _ := hVs 12 (by decide)
        have hv13 : vals 13 = _ := hVs 13 (by decide)
        have hv14 : vals 14 = _ := hVs 14 (by decide)
        have hv15 : vals 15 = _ := hVs 15 (by decide)
        rw [show (List.filterMap (fun i => Option.map (fun t => (t, vals i)) (dstAt _ i)) (List.range _)) = [(29, .slice Aa a.length ka), (30, .int .i64 z25), (31, .slice Aa a.length ka), (32, .int .i64 z25), (33, .pointer (some ((adOf Aa).add z25.toNat))), (34, .int .i64 (gi x24 z25)), (35, .pointer (some ⟨g11, 0, none⟩)), (36, .int .i64 Pf), (37, .int .i64 (gi mf z25)), (38, .int .i64 (Pf - (gi mf z25))), (39, .int .i64 (gi a (Mf - (1 : Int)))), (40, .int .i64 ((Pf - (gi mf z25)) * (gi a (Mf - (1 : Int))))), (41, .int .i64 ((gi x24 z25) + ((Pf - (gi mf z25)) * (gi a (Mf - (1 : Int)))))), (42, .pointer (some ⟨g11, 0, none⟩)), (43, .int .i64 Pf), (44, .int .i64 (((gi x24 z25) + ((Pf - (gi mf z25)) * (gi a (Mf - (1 : Int))))).tmod Pf))] from by
          show [(29, vals 0), (30, vals 1), (31, vals 2), (32, vals 3), (33, vals 4), (34, vals 5), (35, vals 6), (36, vals 7), (37, vals 8), (38, vals 9), (39, vals 10), (40, vals 11), (41, vals 12), (42, vals 13), (43, vals 14), (44, vals 15)] = _
          rw [hv0, hv1, hv2, hv3, hv4, hv5, hv6, hv7, hv8, hv9, hv10, hv11, hv12, hv13, hv14, hv15]]
        refine WA.step [16] (by decide +kernel) rfl ?_
        intro iQ hQ
        simp only [List.mem_cons, List.not_mem_nil, or_false] at hQ
        obtain rfl := hQ
        refine ⟨_, rfl, ?_⟩
        obtain ⟨o53, hv⟩ := hv
        refine SL.index Try.underlying22 Try.el3 (hS.rd (i := 1) rfl) rfl rfl o53 rfl ?_
        refine WL.done ?_
        refine WA.step [17] (by decide +kernel) rfl ?_
        intro iQ hQ
        simp only [List.mem_cons, List.not_mem_nil, or_false] at hQ
        obtain rfl := hQ
        refine ⟨_, rfl, ?_⟩
        refine SL.store (cs' := is (si x24 z25 (((gi x24 z25) + ((Pf - (gi mf z25)) * (gi a (Mf - (1 : Int))))).tmod Pf))) 1 z25.toNat hS rfl Try.el3 rfl rfl rfl (is_lt (hS.rd (i := 1) rfl) o53) (is_set _ _ _) ?_
        intro w54 hS
        refine WL.done ?_
        refine WA.done (by decide +kernel) ?_
        refine W.region ?_
        obtain ⟨o55, hv⟩ := hv
        refine WL.add (r := (z25 + (1 : Int))) rfl rfl (wr o55) rfl ?_
        refine WL.move rfl rfl ?_
        refine WL.done ?_
        change St _ _ _ _ [.row 24 3 (some ⟨g11, 0, none⟩) 1 1 [.int .i64 Pf, .int .i64 Mf, .slice Af mf.length kf], .row 3 1 Aa a.length ka (is (si x24 z25 (((gi x24 z25) + ((Pf - (gi mf z25)) * (gi a (Mf - (1 : Int))))).tmod Pf)))] at hS
        exact ⟨(si x24 z25 (((gi x24 z25) + ((Pf - (gi mf z25)) * (gi a (Mf - (1 : Int))))).tmod Pf), (z25 + (1 : Int))), ⟨rfl, rfl, rfl, rfl, rfl, rfl, trivial⟩, hv.2, rfl, hv.1, hS⟩
    · have hv := hv.2 (of_decide_eq_false c29)
      refine W.exit ?_
      refine ⟨_, rfl, Fin.nil ?_⟩
      exact ⟨_, hS.ext, hS.own (i := 1) rfl, x24, rfl, rfl, hv⟩

def V_product (Pf : Int) (Mf : Int) (mf : List Int) (o : List Int) (a : List Int) (b : List Int) (Q : List Int → Prop) : Prop :=
  (I64 (Mf - (1 : Int))) ∧ (∃ J16 : Int → Prop, (∃ (I20 : Int → Prop) (μ21 : Int → Nat), I20 (Mf - (1 : Int)) ∧ ∀ (z19 : Int), (I20 z19 → ((((0 : Int) < z19) → ((0 ≤ z19 ∧ z19 < (b.length : Nat)) ∧ ((((gi b z19) = (0 : Int)) → ((I64 (z19 - (1 : Int))) ∧ (I20 (z19 - (1 : Int)) ∧ μ21 (z19 - (1 : Int)) < μ21 z19))) ∧ (¬ ((gi b z19) = (0 : Int)) → J16 z19)))) ∧ (¬ ((0 : Int) < z19) → J16 z19)))) ∧ ∀ (z15 : Int), (J16 z15 → (∃ (I35 : List Int → Int → Prop) (μ36 : List Int → Int → Nat), I35 (List.replicate o.length (0 : Int)) z15 ∧ ∀ (x33 : List Int) (z34 : Int), (I35 x33 z34 → ((((0 : Int) ≤ z34) → (V_timesX Pf Mf mf x33 (fun x40 => ∃ (I47 : List Int → Int → Prop) (μ48 : List Int → Int → Nat), I47 x40 (0 : Int) ∧ ∀ (x45 : List Int) (z46 : Int), (I47 x45 z46 → (((z46 < ((a.length : Nat) : Int)) → ((0 ≤ z46 ∧ z46 < (a.length : Nat)) ∧ ((0 ≤ z46 ∧ z46 < (o.length : Nat)) ∧ ((0 ≤ z34 ∧ z34 < (b.length : Nat)) ∧ ((I64 ((gi b z34) * (gi a z46))) ∧ ((I64 ((gi x45 z46) + ((gi b z34) * (gi a z46)))) ∧ ((Pf ≠ 0) ∧ ((0 ≤ z46 ∧ z46 < (o.length : Nat)) ∧ ((I64 (z46 + (1 : Int))) ∧ (I47 (si x45 z46 (((gi x45 z46) + ((gi b z34) * (gi a z46))).tmod Pf)) (z46 + (1 : Int)) ∧ μ48 (si x45 z46 (((gi x45 z46) + ((gi b z34) * (gi a z46))).tmod Pf)) (z46 + (1 : Int)) < μ48 x45 z46)))))))))) ∧ (¬ (z46 < ((a.length : Nat) : Int)) → ((I64 (z34 - (1 : Int))) ∧ (I35 x45 (z34 - (1 : Int)) ∧ μ36 x45 (z34 - (1 : Int)) < μ36 x33 z34)))))))) ∧ (¬ ((0 : Int) ≤ z34) → Q x33))))))
theorem ok_product {w : World} {Q : List Int → Prop} {Pf : Int} {Mf : Int} {mf : List Int} {o : List Int} {a : List Int} {b : List Int} {Bf : Nat} {Af : Option Addr} {nf kf : Nat} (hf : Rd Bf w 1 Af nf kf (is mf)) {Ao : Option Addr} {no ko : Nat} (ho : Own 0 w 3 1 Ao no ko (is o)) {Ba : Nat} {Aa : Option Addr} {na ka : Nat} (ha : Rd Ba w 1 Aa na ka (is a)) {Bb : Nat} {Ab : Option Addr} {nb kb : Nat} (hb : Rd Bb w 1 Ab nb kb (is b)) (hapf : 0 < nf → ∀ g, bl Ao = some g → bl Af ≠ some g) (hapa : 0 < na → ∀ g, bl Ao = some g → bl Aa ≠ some g) (hapb : 0 < nb → ∀ g, bl Ao = some g → bl Ab ≠ some g) (hv : V_product Pf Mf mf o a b Q) :
    Calls Try.prog 87 #[.agg #[.int .i64 Pf, .int .i64 Mf, .slice Af nf kf], .slice Ao no ko, .slice Aa na ka, .slice Ab nb kb] w fun e w' => ∃ v cs', e = .returned v ∧ w.grownBy w' (bl Ao) ∧ Own 0 w' 3 1 Ao no ko cs' ∧ ∃ x : List Int, v = .tuple #[] ∧ cs' = is x ∧ Q x := by
  have hnf := hf.ilen
  subst hnf
  have hno := ho.rd.ilen
  subst hno
  have hna := ha.ilen
  subst hna
  have hnb := hb.ilen
  subst hnb
  refine calls_swapM ?_
  refine calls_of_W (vs := [.agg #[.int .i64 Pf, .int .i64 Mf, .slice Af mf.length kf], .slice Ao o.length ko, .slice Aa a.length ka, .slice Ab b.length kb]) [] Try.func87 rfl rfl rfl rfl ?_
  have hS := St.startM ho
  unfold V_product at hv
  refine W.seq ?_
  refine W.region ?_
  refine SL.box (z := 3) (cs := [.int .i64 Pf, .int .i64 Mf, .slice Af mf.length kf]) hS rfl rfl rfl rfl ?_
  intro g11 w12 hS
  refine WL.done ?_
  refine W.seq ?_
  refine W.region ?_
  refine WL.move rfl rfl ?_
  refine SL.clear (xs := o) 1 hS rfl Try.underlying22 Try.el3 rfl ?_
  intro w13 hS
  refine WL.done ?_
  refine W.seq ?_
  refine W.region ?_
  refine WL.fieldA (off := 1) Try.fla24_1 rfl rfl ?_
  refine WL.load Try.underlying3 rfl rfl (Own.vcells (hS.own (i := 0) rfl) 1 _ rfl) rfl ?_
  obtain ⟨o14, hv⟩ := hv
  refine WL.sub (r := (Mf - (1 : Int))) rfl rfl (wr o14) rfl ?_
  refine WL.assign rfl rfl ?_
  refine WL.done ?_
  refine W.seq ?_
  obtain ⟨J16, hv, hk80⟩ := hv
  refine W.cutN (σ := Int) (fun z15 w1 => J16 z15 ∧ St TT w (bl Ao) w1 [.row 24 3 (some ⟨g11, 0, none⟩) 1 1 [.int .i64 Pf, .int .i64 Mf, .slice Af mf.length kf], .row 3 1 Ao o.length ko (is (List.replicate o.length (0 : Int)))]) (fun z15 => [(1, .slice Ao o.length ko), (2, .slice Aa a.length ka), (3, .slice Ab b.length kb), (4, .pointer (some ⟨g11, 0, none⟩)), (8, .int .i64 z15)]) ?_ ?_
  · refine W.block ?_
    obtain ⟨I20, μ21, hv, hk27⟩ := hv
    change St _ _ _ _ [.row 24 3 (some ⟨g11, 0, none⟩) 1 1 [.int .i64 Pf, .int .i64 Mf, .slice Af mf.length kf], .row 3 1 Ao o.length ko (is (List.replicate o.length (0 : Int)))] at hS
    refine W.loop (σ := Int) (fun z19 w1 => I20 z19 ∧ St TT w (bl Ao) w1 [.row 24 3 (some ⟨g11, 0, none⟩) 1 1 [.int .i64 Pf, .int .i64 Mf, .slice Af mf.length kf], .row 3 1 Ao o.length ko (is (List.replicate o.length (0 : Int)))]) (fun z19 => [(1, .slice Ao o.length ko), (2, .slice Aa a.length ka), (3, .slice Ab b.length kb), (4, .pointer (some ⟨g11, 0, none⟩)), (8, .int .i64 z19)]) (fun z19 => μ21 z19) (Mf - (1 : Int)) ⟨hv, hS⟩ ⟨rfl, rfl, rfl, rfl, rfl, trivial⟩ ?_
    rintro z19 w22 ⟨hv, hS⟩
    have hv := hk27 z19 hv
    refine W.seq ?_
    refine W.seq ?_
    refine W.region ?_
    refine WL.move rfl rfl ?_
    refine WL.gtrD rfl rfl rfl ?_
    refine WL.move rfl rfl ?_
    by_cases g23 : (0 : Int) < z19
    · have hv := hv.1 g23
      rw [decide_eq_true g23]
      refine WL.take rfl ?_
      refine WL.move rfl rfl ?_
      refine WL.take rfl ?_
      refine WL.move rfl rfl ?_
      refine WL.take rfl ?_
      obtain ⟨o24, hv⟩ := hv
      refine SL.index Try.underlying22 Try.el3 (hS.rom' hb hapb) rfl rfl o24 rfl ?_
      refine WL.take rfl ?_
      refine WL.load Try.underlying3 rfl rfl (Rd.gi (hS.rom' hb hapb) o24) rfl ?_
      refine WL.take rfl ?_
      refine WL.eqlD rfl rfl rfl ?_
      refine WL.pick rfl rfl rfl ?_
      refine WL.done ?_
      refine W.cond2 rfl (fun c25 => ?_) (fun c25 => ?_)
      · have hv := hv.1 (of_decide_eq_true c25)
        refine W.skip ?_
        refine W.block ?_
        refine W.region ?_
        refine WL.move rfl rfl ?_
        obtain ⟨o26, hv⟩ := hv
        refine WL.sub (r := (z19 - (1 : Int))) rfl rfl (wr o26) rfl ?_
        refine WL.assign rfl rfl ?_
        refine WL.done ?_
        change St _ _ _ _ [.row 24 3 (some ⟨g11, 0, none⟩) 1 1 [.int .i64 Pf, .int .i64 Mf, .slice Af mf.length kf], .row 3 1 Ao o.length ko (is (List.replicate o.length (0 : Int)))] at hS
        exact ⟨(z19 - (1 : Int)), ⟨rfl, rfl, rfl, rfl, rfl, trivial⟩, hv.2, rfl, hv.1, hS⟩
      · have hv := hv.2 (of_decide_eq_false c25)
        refine W.exit ?_
        change St _ _ _ _ [.row 24 3 (some ⟨g11, 0, none⟩) 1 1 [.int .i64 Pf, .int .i64 Mf, .slice Af mf.length kf], .row 3 1 Ao o.length ko (is (List.replicate o.length (0 : Int)))] at hS
        exact ⟨z19, ⟨rfl, rfl, rfl, rfl, rfl, trivial⟩, rfl, hv, hS⟩
    · have hv := hv.2 g23
      rw [decide_eq_false g23]
      refine WL.pass rfl rfl rfl ?_
      refine WL.pass rfl rfl rfl ?_
      refine WL.pass rfl rfl rfl ?_
      refine WL.pass rfl rfl rfl ?_
      refine WL.pass rfl rfl rfl ?_
      refine WL.pick rfl rfl rfl ?_
      refine WL.done ?_
      refine W.condF rfl ?_
      refine W.exit ?_
      change St _ _ _ _ [.row 24 3 (some ⟨g11, 0, none⟩) 1 1 [.int .i64 Pf, .int .i64 Mf, .slice Af mf.length kf], .row 3 1 Ao o.length ko (is (List.replicate o.length (0 : Int)))] at hS
      exact ⟨z19, ⟨rfl, rfl, rfl, rfl, rfl, trivial⟩, rfl, hv, hS⟩
  · rintro z15 w28 ⟨hv, hS⟩
    have hv := hk80 z15 hv
    refine W.seq ?_
    refine W.region ?_
    refine WL.move rfl rfl ?_
    refine WL.assign rfl rfl ?_
    refine WL.done ?_
    refine W.block ?_
    obtain ⟨I35, μ36, hv, hk79⟩ := hv
    change St _ _ _ _ [.row 24 3 (some ⟨g11, 0, none⟩) 1 1 [.int .i64 Pf, .int .i64 Mf, .slice Af mf.length kf], .row 3 1 Ao o.length ko (is (List.replicate o.length (0 : Int)))] at hS
    refine W.loop (σ := List Int × Int) (fun q w1 => match q with | (x33, z34) => I35 x33 z34 ∧ St TT w (bl Ao) w1 [.row 24 3 (some ⟨g11, 0, none⟩) 1 1 [.int .i64 Pf, .int .i64 Mf, .slice Af mf.length kf], .row 3 1 Ao o.length ko (is x33)]) (fun q => match q with | (x33, z34) => [(1, .slice Ao o.length ko), (2, .slice Aa a.length ka), (3, .slice Ab b.length kb), (4, .pointer (some ⟨g11, 0, none⟩)), (9, .int .i64 z34)]) (fun q => match q with | (x33, z34) => μ36 x33 z34) (List.replicate o.length (0 : Int), z15) ⟨hv, hS⟩ ⟨rfl, rfl, rfl, rfl, rfl, trivial⟩ ?_
    rintro ⟨x33, z34⟩ w37 ⟨hv, hS⟩
    have hv := hk79 x33 z34 hv
    refine W.seq ?_
    refine W.seq ?_
    refine W.region ?_
    refine WL.move rfl rfl ?_
    refine WL.geqD rfl rfl rfl ?_
    refine WL.done ?_
    refine W.cond2 rfl (fun c38 => ?_) (fun c38 => ?_)
    · have hv := hv.1 (of_decide_eq_true c38)
      refine W.skip ?_
      refine W.seq ?_
      refine W.block ?_
      refine W.seq ?_
      refine W.region ?_
      refine WL.loadV (cs := [.int .i64 Pf, .int .i64 Mf, .slice Af mf.length kf]) Try.el24 Try.agg24 rfl rfl (Own.vcells (hS.own (i := 0) rfl)) rfl ?_
      refine WL.move rfl rfl ?_
      refine SL.callm 1 hS rfl (ok_timesX (hS.rom' hf hapf) (hS.own (i := 1) rfl) (hS.aptRoM (i := 1) rfl hf hapf) hv) Try.func90 rfl Try.nm90 rfl rfl ?_
      rintro _ _ w39 ⟨x40, rfl, rfl, hv⟩ hS
      change St _ _ _ _ [.row 24 3 (some ⟨g11, 0, none⟩) 1 1 [.int .i64 Pf, .int .i64 Mf, .slice Af mf.length kf], .row 3 1 Ao o.length ko (is x40)] at hS
      refine WL.done ?_
      refine W.seq ?_
      refine W.region ?_
      refine WL.move rfl rfl ?_
      refine WL.len Try.underlying22 rfl rfl ?_
      refine WL.move rfl rfl ?_
      refine WL.done ?_
      refine W.block ?_
      obtain ⟨I47, μ48, hv, hk78⟩ := hv
      change St _ _ _ _ [.row 24 3 (some ⟨g11, 0, none⟩) 1 1 [.int .i64 Pf, .int .i64 Mf, .slice Af mf.length kf], .row 3 1 Ao o.length ko (is x40)] at hS
      refine W.loop (σ := List Int × Int) (fun q w1 => match q with | (x45, z46) => I47 x45 z46 ∧ St TT w (bl Ao) w1 [.row 24 3 (some ⟨g11, 0, none⟩) 1 1 [.int .i64 Pf, .int .i64 Mf, .slice Af mf.length kf], .row 3 1 Ao o.length ko (is x45)]) (fun q => match q with | (x45, z46) => [(1, .slice Ao o.length ko), (2, .slice Aa a.length ka), (3, .slice Ab b.length kb), (4, .pointer (some ⟨g11, 0, none⟩)), (9, .int .i64 z34), (29, .bool (decide ((0 : Int) ≤ z34))), (35, .slice Aa a.length ka), (36, .int .i64 ((a.length : Nat) : Int)), (37, .int .i64 z46)]) (fun q => match q with | (x45, z46) => μ48 x45 z46) (x40, (0 : Int)) ⟨hv, hS⟩ ⟨rfl, rfl, rfl, rfl, rfl, rfl, rfl, rfl, rfl, trivial⟩ ?_
      rintro ⟨x45, z46⟩ w49 ⟨hv, hS⟩
      have hv := hk78 x45 z46 hv
      refine W.seq ?_
      refine W.region ?_
      refine WL.lssD rfl rfl rfl ?_
      refine WL.done ?_
      refine W.seq ?_
      refine W.cond2 rfl (fun c50 => ?_) (fun c50 => ?_)
      · have hv := hv.1 (of_decide_eq_true c50)
        refine W.skip ?_
        refine W.seq ?_
        refine W.block ?_
        refine W.seq ?_
        refine W.region ?_
        refine WL.move rfl rfl ?_
        obtain ⟨o51, hv⟩ := hv
        refine SL.index Try.underlying22 Try.el3 (hS.rom' ha hapa) rfl rfl o51 rfl ?_
        refine WL.load Try.underlying3 rfl rfl (Rd.gi (hS.rom' ha hapa) o51) rfl ?_
        refine WL.assign rfl rfl ?_
        refine WL.assign rfl rfl ?_
        refine WL.done ?_
        obtain ⟨o57, hv⟩ := hv
        obtain ⟨o62, hv⟩ := hv
        obtain ⟨o66, hv⟩ := hv
        obtain ⟨o68, hv⟩ := hv
        obtain ⟨o72, hv⟩ := hv
        have hS0 := hS
        refine W.drawX 16 (fun _ => false) (fun _ => none) [⟨[], [1], true⟩, ⟨[], [10], true⟩, ⟨[], [1], true⟩, ⟨[], [10], true⟩, ⟨[2, 3], [], true⟩, ⟨[4], [], false⟩, ⟨[], [3], true⟩, ⟨[], [9], true⟩, ⟨[6, 7], [], true⟩, ⟨[8], [], false⟩, ⟨[], [11], true⟩, ⟨[9, 10], [], true⟩, ⟨[5, 11], [], true⟩, ⟨[], [4], true⟩, ⟨[13], [], false⟩, ⟨[12, 14], [], true⟩] [[(1, .slice Ao o.length ko)], [(10, .int .i64 z46)], [(1, .slice Ao o.length ko)], [(10, .int .i64 z46)], [], [], [(3, .slice Ab b.length kb)], [(9, .int .i64 z34)], [], [], [(11, .int .i64 (gi a z46))], [], [], [(4, .pointer (some ⟨g11, 0, none⟩))], [], []] (fun iQ => [fun v _ => v = .slice Ao o.length ko, fun v _ => v = .int .i64 z46, fun v _ => v = .slice Ao o.length ko, fun v _ => v = .int .i64 z46, fun v _ => v = .pointer (some ((adOf Ao).add z46.toNat)), fun v _ => v = .int .i64 (gi x45 z46), fun v _ => v = .slice Ab b.length kb, fun v _ => v = .int .i64 z34, fun v _ => v = .pointer (some ((adOf Ab).add z34.toNat)), fun v _ => v = .int .i64 (gi b z34), fun v _ => v = .int .i64 (gi a z46), fun v _ => v = .int .i64 ((gi b z34) * (gi a z46)), fun v _ => v = .int .i64 ((gi x45 z46) + ((gi b z34) * (gi a z46))), fun v _ => v = .pointer (some ⟨g11, 0, none⟩), fun v _ => v = .int .i64 Pf, fun v _ => v = .int .i64 (((gi x45 z46) + ((gi b z34) * (gi a z46))).tmod Pf)].getD iQ (fun _ _ => True)) Try.mixed (by kernel_rfl) ?_ (by kernel_rfl) ?_ ?_
        · refine Vs_monoT _ ?_
          intro VQ hVQ vQ wQ1 wQ2 hQ1 hQ2
          simp only [List.mem_cons, List.not_mem_nil, or_false] at hVQ
          rcases hVQ with rfl | rfl | rfl | rfl | rfl | rfl | rfl | rfl | rfl | rfl | rfl | rfl | rfl | rfl | rfl | rfl
          · exact hQ1
          · exact hQ1
          · exact hQ1
          · exact hQ1
          · exact hQ1
          · exact hQ1
          · exact hQ1
          · exact hQ1
          · exact hQ1
          · exact hQ1
          · exact hQ1
          · exact hQ1
          · exact hQ1
          · exact hQ1
          · exact hQ1
          · exact hQ1
        · refine ⟨⟨rfl, ⟨rfl, trivial⟩, ?_⟩, ⟨rfl, ⟨rfl, trivial⟩, ?_⟩, ⟨rfl, ⟨rfl, trivial⟩, ?_⟩, ⟨rfl, ⟨rfl, trivial⟩, ?_⟩, ⟨rfl, trivial, ?_⟩, ⟨rfl, trivial, ?_⟩, ⟨rfl, ⟨rfl, trivial⟩, ?_⟩, ⟨rfl, ⟨rfl, trivial⟩, ?_⟩, ⟨rfl, trivial, ?_⟩, ⟨rfl, trivial, ?_⟩, ⟨rfl, ⟨rfl, trivial⟩, ?_⟩, ⟨rfl, trivial, ?_⟩, ⟨rfl, trivial, ?_⟩, ⟨rfl, ⟨rfl, trivial⟩, ?_⟩, ⟨rfl, trivial, ?_⟩, ⟨rfl, trivial, ?_⟩, trivial⟩
          · intro w52 hE
            intro RR
            refine WL.move rfl rfl ?_
            exact WL.done ⟨_, rfl, rfl, rfl, (fun h => absurd h (by decide)), (fun j h => by cases h)⟩
          · intro w53 hE
            intro RR
            refine WL.move rfl rfl ?_
            exact WL.done ⟨_, rfl, rfl, rfl, (fun h => absurd h (by decide)), (fun j h => by cases h)⟩
          · intro w54 hE
            intro RR
            refine WL.move rfl rfl ?_
            exact WL.done ⟨_, rfl, rfl, rfl, (fun h => absurd h (by decide)), (fun j h => by cases h)⟩
          · intro w55 hE
            intro RR
            refine WL.move rfl rfl ?_
            exact WL.done ⟨_, rfl, rfl, rfl, (fun h => absurd h (by decide)), (fun j h => by cases h)⟩
          · intro w56 hE
            rintro _ rfl
            rintro _ rfl
            intro RR
            refine SL.index Try.underlying22 Try.el3 (hS.rd (i := 1) rfl) rfl rfl o57 rfl ?_
            exact WL.done ⟨_, rfl, rfl, rfl, (fun h => absurd h (by decide)), (fun j h => by cases h)⟩
          · intro w58 hE
            have hE := hE rfl
            have hS := hS.grow hE
            rintro _ rfl
            intro RR
            refine WL.load Try.underlying3 rfl rfl (Rd.gi (hS.rd (i := 1) rfl) o57) rfl ?_
            exact WL.done ⟨_, rfl, ext_refl _, rfl, (fun h => absurd h (by decide)), (fun j h => by cases h)⟩
          · intro w59 hE
            intro RR
            refine WL.move rfl rfl ?_
            exact WL.done ⟨_, rfl, rfl, rfl, (fun h => absurd h (by decide)), (fun j h => by cases h)⟩
          · intro w60 hE
            intro RR
            refine WL.move rfl rfl ?_
            exact WL.done ⟨_, rfl, rfl, rfl, (fun h => absurd h (by decide)), (fun j h => by cases h)⟩
          · intro w61 hE
            rintro _ rfl
            rintro _ rfl
            intro RR
            refine SL.index Try.underlying22 Try.el3 (hS.rom' hb hapb) rfl rfl o62 rfl ?_
            exact WL.done ⟨_, rfl, rfl, rfl, (fun h => absurd h (by decide)), (fun j h => by cases h)⟩
          · intro w63 hE
            have hE := hE rfl
            have hS := hS.grow hE
            rintro _ rfl
            intro RR
            refine WL.load Try.underlying3 rfl rfl (Rd.gi (hS.rom' hb hapb) o62) rfl ?_
            exact WL.done ⟨_, rfl, ext_refl _, rfl, (fun h => absurd h (by decide)), (fun j h => by cases h)⟩
          · intro w64 hE
            intro RR
            refine WL.move rfl rfl ?_
            exact WL.done ⟨_, rfl, rfl, rfl, (fun h => absurd h (by decide)), (fun j h => by cases h)⟩
          · intro w65 hE
            rintro _ rfl
            rintro _ rfl
            intro RR
            refine WL.mul (r := ((gi b z34) * (gi a z46))) rfl rfl (wr o66) rfl ?_
            exact WL.done ⟨_, rfl, rfl, rfl, (fun h => absurd h (by decide)), (fun j h => by cases h)⟩
          · intro w67 hE
            rintro _ rfl
            rintro _ rfl
            intro RR
            refine WL.add (r := ((gi x45 z46) + ((gi b z34) * (gi a z46)))) rfl rfl (wr o68) rfl ?_
            exact WL.done ⟨_, rfl, rfl, rfl, (fun h => absurd h (by decide)), (fun j h => by cases h)⟩
          · intro w69 hE
            intro RR
            refine WL.fieldA (off := 0) Try.fla24_0 rfl rfl ?_
            exact WL.done ⟨_, rfl, rfl, rfl, (fun h => absurd h (by decide)), (fun j h => by cases h)⟩
          · intro w70 hE
            have hE := hE rfl
            have hS := hS.grow hE
            rintro _ rfl
            intro RR
            refine WL.load Try.underlying3 rfl rfl (Own.vcells (hS.own (i := 0) rfl) 0 _ rfl) rfl ?_
            exact WL.done ⟨_, rfl, ext_refl _, rfl, (fun h => absurd h (by decide)), (fun j h => by cases h)⟩
          · intro w71 hE
            rintro _ rfl
            rintro _ rfl
            intro RR
            refine WL.rem (r := (((gi x45 z46) + ((gi b z34) * (gi a z46))).tmod Pf)) rfl rfl o72 rfl rfl ?_
            exact WL.done ⟨_, rfl, rfl, rfl, (fun h => absurd h (by decide)), (fun j h => by cases h)⟩
        · intro vals w73 hT hVs hAp hCp
          have hS := hS.grow hT
          have hv0 : vals 0 = _ := hVs 0 (by decide)
          have hv1 : vals 1 = _ := hVs 1 (by decide)
          have hv2 : vals 2 = _ := hVs 2 (by decide)
          have hv3 : vals 3 = _ := hVs 3 (by decide)
          have hv4 : vals 4 = _ := hVs 4 (by decide)
          have hv5 : vals 5 = _ := hVs 5 (by decide)
          have hv6 : vals 6 = _ := hVs 6 (by decide)
          have hv7 : vals 7 = _ := hVs 7 (by decide)
          have hv8 : vals 8 = _ := hVs 8 (by decide)
          have hv9 : vals 9 = _ := hVs 9 (by decide)
          have hv10 : vals 10 = _ := hVs 10 (by decide)
          have hv11 : vals 11 = _ := hVs 11 (by decide)
          have hv12 : vals 12 = _ := hVs 12 (by decide)
          have hv13 : vals 13 = _ := hVs 13 (by decide)
          have hv14 : vals 14 = _ := hVs 14 (by decide)
          have hv15 : vals 15 = _ := hVs 15 (by decide)
          rw [show (List.filterMap (fun i => Option.map (fun t => (t, vals i)) (dstAt _ i)) (List.range _)) = [(42, .slice Ao o.length ko), (43, .int .i64 z46), (44, .slice Ao o.length ko), (45, .int .i64 z46), (46, .pointer (some ((adOf Ao).add z46.toNat))), (47, .int .i64 (gi x45 z46)), (48, .slice Ab b.length kb), (49, .int .i64 z34), (50, .pointer (some ((adOf Ab).add z34.toNat))), (51, .int .i64 (gi b z34)), (52, .int .i64 (gi a z46)), (53, .int .i64 ((gi b z34) * (gi a z46))), (54, .int .i64 ((gi x45 z46) + ((gi b z34) * (gi a z46)))), (55, .pointer (some ⟨g11, 0, none⟩)), (56, .int .i64 Pf), (57, .int .i64 (((gi x45 z46) + ((gi b z34) * (gi a z46))).tmod Pf))] from by
            show [(42, vals 0), (43, vals 1), (44, vals 2), (45, vals 3), (46, vals 4), (47, vals 5), (48, vals 6), (49, vals 7), (50, vals 8), (51, vals 9), (52, vals 10), (53, vals 11), (54, vals 12), (55, vals 13), (56, vals 14), (57, vals 15)] = _
            rw [hv0, hv1, hv2, hv3, hv4, hv5, hv6, hv7, hv8, hv9, hv10, hv11, hv12, hv13, hv14, hv15]]
          refine WA.step [16] (by decide +kernel) rfl ?_
          intro iQ hQ
          simp only [List.mem_cons, List.not_mem_nil, or_false] at hQ
          obtain rfl := hQ
          refine ⟨_, rfl, ?_⟩
          obtain ⟨o74, hv⟩ := hv
          refine SL.index Try.underlying22 Try.el3 (hS.rd (i := 1) rfl) rfl rfl o74 rfl ?_
          refine WL.done ?_
          refine WA.step [17] (by decide +kernel) rfl ?_
          intro iQ hQ
          simp only [List.mem_cons, List.not_mem_nil, or_false] at hQ
          obtain rfl := hQ
          refine ⟨_, rfl, ?_⟩
          refine SL.store (cs' := is (si x45 z46 (((gi x45 z46) + ((gi b z34) * (gi a z46))).tmod Pf))) 1 z46.toNat hS rfl Try.el3 rfl rfl rfl (is_lt (hS.rd (i := 1) rfl) o74) (is_set _ _ _) ?_
          intro w75 hS
          refine WL.done ?_
          refine WA.done (by decide +kernel) ?_
          refine W.region ?_
          obtain ⟨o76, hv⟩ := hv
          refine WL.add (r := (z46 + (1 : Int))) rfl rfl (wr o76) rfl ?_
          refine WL.move rfl rfl ?_
          refine WL.done ?_
          change St _ _ _ _ [.row 24 3 (some ⟨g11, 0, none⟩) 1 1 [.int .i64 Pf, .int .i64 Mf, .slice Af mf.length kf], .row 3 1 Ao o.length ko (is (si x45 z46 (((gi x45 z46) + ((gi b z34) * (gi a z46))).tmod Pf)))] at hS
          exact ⟨(si x45 z46 (((gi x45 z46) + ((gi b z34) * (gi a z46))).tmod Pf), (z46 + (1 : Int))), ⟨rfl, rfl, rfl, rfl, rfl, rfl, rfl, rfl, rfl, trivial⟩, hv.2, rfl, hv.1, hS⟩
      · have hv := hv.2 (of_decide_eq_false c50)
        refine W.exit ?_
        refine W.region ?_
        refine WL.move rfl rfl ?_
        obtain ⟨o77, hv⟩ := hv
        refine WL.sub (r := (z34 - (1 : Int))) rfl rfl (wr o77) rfl ?_
        refine WL.assign rfl rfl ?_
        refine WL.done ?_
        change St _ _ _ _ [.row 24 3 (some ⟨g11, 0, none⟩) 1 1 [.int .i64 Pf, .int .i64 Mf, .slice Af mf.length kf], .row 3 1 Ao o.length ko (is x45)] at hS
        exact ⟨(x45, (z34 - (1 : Int))), ⟨rfl, rfl, rfl, rfl, rfl, trivial⟩, hv.2, rfl, hv.1, hS⟩
    · have hv := hv.2 (of_decide_eq_false c38)
      refine W.exit ?_
      refine ⟨_, rfl, Fin.nil ?_⟩
      exact ⟨_, hS.ext, hS.own (i := 1) rfl, x33, rfl, rfl, hv⟩

def V_powers (Pf : Int) (Mf : Int) (mf : List Int) (x : Int) (Q : List Int → Prop) : Prop :=
  V_order Pf Mf mf (fun r14 => (0 ≤ r14 ∧ r14 * 8 ≤ 281474976710656 ∧ r14 ≤ 281474976710656) ∧ ((((0 : Nat) + (1 : Nat) : Int) * 8 ≤ 140737488355328) ∧ (∃ (x32 : List Int), V_digits Pf Mf x (fun q => q = x32) ∧ (∃ (x46 : List Int), V_digits Pf Mf x (fun q => q = x46) ∧ ((0 ≤ Mf ∧ Mf * 8 ≤ 281474976710656 ∧ Mf ≤ 281474976710656) ∧ (∃ (I119 : List Int → Int → List Int → List Int → Prop) (μ120 : List Int → Int → List Int → List Int → Nat), I119 (([] : List Int) ++ ([(1 : Int)] : List Int)) x x46 (List.replicate Mf.toNat (0 : Int)) ∧ ∀ (x107 : List Int) (z110 : Int) (x111 : List Int) (x115 : List Int), (I119 x107 z110 x111 x115 → (((z110 ≠ (1 : Int)) → ((((x107.length : Nat) + (1 : Nat) : Int) * 8 ≤ 140737488355328) ∧ (V_product Pf Mf mf x115 x111 x32 (fun x131 => V_fromDigits Pf x131 (fun r133 => I119 (x107 ++ ([z110] : List Int)) r133 x131 x111 ∧ μ120 (x107 ++ ([z110] : List Int)) r133 x131 x111 < μ120 x107 z110 x111 x115))))) ∧ (¬ (z110 ≠ (1 : Int)) → Q x107)))))))))
theorem ok_powers {w : World} {Q : List Int → Prop} {Pf : Int} {Mf : Int} {mf : List Int} {x : Int} {Bf : Nat} {Af : Option Addr} {nf kf : Nat} (hf : Rd Bf w 1 Af nf kf (is mf)) (hv : V_powers Pf Mf mf x Q) :
    Calls Try.prog 77 #[.agg #[.int .i64 Pf, .int .i64 Mf, .slice Af nf kf], .int .i64 x] w fun e w' => ∃ v Qr, e = .returned v ∧ w.grownBy w' none ∧ Rows w.heap.size none w' Qr ∧ News w.heap.size Qr ∧ ∃ (x : List Int)  (A : Option Addr) (c : Nat), v = .slice A x.length c ∧ Qr = [.row 3 1 A x.length c (is x)] ∧ Q x := by
  have hnf := hf.ilen
  subst hnf
  refine calls_swap ?_
  refine calls_of_W (vs := [.agg #[.int .i64 Pf, .int .i64 Mf, .slice Af mf.length kf], .int .i64 x]) [4] Try.func77 rfl rfl rfl rfl ?_
  have hS := St.start w
  unfold V_powers at hv
  refine W.seq ?_
  refine W.region ?_
  refine SL.box (z := 3) (cs := [.int .i64 Pf, .int .i64 Mf, .slice Af mf.length kf]) hS rfl rfl rfl rfl ?_
  intro g11 w12 hS
  refine WL.assign rfl rfl ?_
  refine WL.done ?_
  refine W.seq ?_
  refine W.region ?_
  refine WL.loadV (cs := [.int .i64 Pf, .int .i64 Mf, .slice Af mf.length kf]) Try.el24 Try.agg24 rfl rfl (Own.vcells (hS.own (i := 0) rfl)) rfl ?_
  refine SL.call hS (ok_order (hS.ro hf) hv) Try.func61 rfl Try.nm61 rfl rfl ?_
  rintro _ _ w13 ⟨r14, rfl, rfl, hv⟩ hGw13 hS
  change St _ _ _ _ [.row 24 3 (some ⟨g11, 0, none⟩) 1 1 [.int .i64 Pf, .int .i64 Mf, .slice Af mf.length kf]] at hS
  obtain ⟨o15, hv⟩ := hv
  refine SL.make0 (J := r14) (cs := is []) hS Try.underlying22 Try.el3 rfl rfl o15 rfl rfl ?_
  intro A16 w17 hS
  refine WL.assign rfl rfl ?_
  refine WL.done ?_
  refine W.seq ?_
  refine W.region ?_
  refine WL.move rfl rfl ?_
  refine SL.lit1 (vs := is ([(1 : Int)] : List Int)) hS Try.underlying22 Try.el3 rfl rfl rfl rfl (is_one _) rfl ?_
  intro A19 w20 hS
  obtain ⟨o22, hv⟩ := hv
  refine SL.append (cs := is ([] : List Int)) (cs' := is ([(1 : Int)] : List Int)) 1 ((([] : List Int) ++ ([(1 : Int)] : List Int)).length) (is (([] : List Int) ++ ([(1 : Int)] : List Int))) hS rfl Try.underlying22 Try.el3 (hS.rd (i := 0) rfl) (is_one _) rfl rfl (apk o22).1 (apk o22).2 (is_ap (hS.rd (i := 1) rfl) (hS.rd (i := 0) rfl)) (is_append _ _) rfl ?_
  intro A23 k24 w25 hS
  refine WL.assign rfl rfl ?_
  refine WL.done ?_
  refine W.seq ?_
  obtain ⟨x32, o39, hv⟩ := hv
  obtain ⟨x46, o53, hv⟩ := hv
  obtain ⟨o57, hv⟩ := hv
  have hS0 := hS
  refine W.drawX 18 (fun iA => [false, false, false, false, false, true, false, false, false, false, false, true, false, false, true, false, false, false].getD iA false) (fun iC => match iC with | 15 => some 5 | 16 => some 11 | 17 => some 14 | _ => none) [⟨[], [2], true⟩, ⟨[0], [], false⟩, ⟨[], [2], true⟩, ⟨[2], [], false⟩, ⟨[], [1], true⟩, ⟨[1, 3, 4], [], false⟩, ⟨[], [2], true⟩, ⟨[6], [], false⟩, ⟨[], [2], true⟩, ⟨[8], [], false⟩, ⟨[], [1], true⟩, ⟨[7, 9, 10], [], false⟩, ⟨[], [2], true⟩, ⟨[12], [], false⟩, ⟨[13], [], false⟩, ⟨[5], [], true⟩, ⟨[11], [], true⟩, ⟨[14], [], true⟩] [[(2, .pointer (some ⟨g11, 0, none⟩))], [], [(2, .pointer (some ⟨g11, 0, none⟩))], [], [(1, .int .i64 x)], [], [(2, .pointer (some ⟨g11, 0, none⟩))], [], [(2, .pointer (some ⟨g11, 0, none⟩))], [], [(1, .int .i64 x)], [], [(2, .pointer (some ⟨g11, 0, none⟩))], [], [], [], [], []] (fun iQ => [fun v _ => v = .pointer (some ⟨g11, 0, none⟩), fun v _ => v = .int .i64 Pf, fun v _ => v = .pointer (some ((⟨g11, 0, none⟩ : Addr).add 1)), fun v _ => v = .int .i64 Mf, fun v _ => v = .int .i64 x, fun v wQ => ∃ A33_5 k34_5, v = .slice A33_5 x32.length k34_5 ∧ Own 0 wQ 3 1 A33_5 x32.length k34_5 (is x32) ∧ (∀ g, bl A33_5 = some g → w25.heap.size ≤ g), fun v _ => v = .pointer (some ⟨g11, 0, none⟩), fun v _ => v = .int .i64 Pf, fun v _ => v = .pointer (some ((⟨g11, 0, none⟩ : Addr).add 1)), fun v _ => v = .int .i64 Mf, fun v _ => v = .int .i64 x, fun v wQ => ∃ A47_11 k48_11, v = .slice A47_11 x46.length k48_11 ∧ Own 0 wQ 3 1 A47_11 x46.length k48_11 (is x46) ∧ (∀ g, bl A47_11 = some g → w25.heap.size ≤ g), fun v _ => v = .pointer (some ((⟨g11, 0, none⟩ : Addr).add 1)), fun v _ => v = .int .i64 Mf, fun v wQ => ∃ A58_14 k62_14, v = .slice A58_14 Mf.toNat k62_14 ∧ Own 0 wQ 3 1 A58_14 Mf.toNat k62_14 (is (List.replicate Mf.toNat (0 : Int))) ∧ (∀ g, bl A58_14 = some g → w25.heap.size ≤ g), fun v wQ => ∃ A33_5_15 k34_5_15, v = .slice A33_5_15 x32.length k34_5_15 ∧ Own 0 wQ 3 1 A33_5_15 x32.length k34_5_15 (is x32) ∧ (∀ g, bl A33_5_15 = some g → w25.heap.size ≤ g), fun v wQ => ∃ A47_11_16 k48_11_16, v = .slice A47_11_16 x46.length k48_11_16 ∧ Own 0 wQ 3 1 A47_11_16 x46.length k48_11_16 (is x46) ∧ (∀ g, bl A47_11_16 = some g → w25.heap.size ≤ g), fun v wQ => ∃ A58_14_17 k62_14_17, v = .slice A58_14_17 Mf.toNat k62_14_17 ∧ Own 0 wQ 3 1 A58_14_17 Mf.toNat k62_14_17 (is (List.replicate Mf.toNat (0 : Int))) ∧ (∀ g, bl A58_14_17 = some g → w25.heap.size ≤ g)].getD iQ (fun _ _ => True)) Try.mixed (by kernel_rfl) ?_ (by kernel_rfl) ?_ ?_
  · refine Vs_monoT _ ?_
    intro VQ hVQ vQ wQ1 wQ2 hQ1 hQ2
    simp only [List.mem_cons, List.not_mem_nil, or_false] at hVQ
    rcases hVQ with rfl | rfl | rfl | rfl | rfl | rfl | rfl | rfl | rfl | rfl | rfl | rfl | rfl | rfl | rfl | rfl | rfl | rfl
    · exact hQ1
    · exact hQ1
    · exact hQ1
    · exact hQ1
    · exact hQ1
    · obtain ⟨A33_5, k34_5, hQe, hO37_5, hN38_5⟩ := hQ1
      exact ⟨A33_5, k34_5, hQe, hO37_5.ext hQ2, hN38_5⟩
    · exact hQ1
    · exact hQ1
    · exact hQ1
    · exact hQ1
    · exact hQ1
    · obtain ⟨A47_11, k48_11, hQe, hO51_11, hN52_11⟩ := hQ1
      exact ⟨A47_11, k48_11, hQe, hO51_11.ext hQ2, hN52_11⟩
    · exact hQ1
    · exact hQ1
    · obtain ⟨A58_14, k62_14, hQe, hO60_14, hN61_14⟩ := hQ1
      exact ⟨A58_14, k62_14, hQe, hO60_14.ext hQ2, hN61_14⟩
    · obtain ⟨A33_5_15, k34_5_15, hQe, hO37_5_15, hN38_5_15⟩ := hQ1
      exact ⟨A33_5_15, k34_5_15, hQe, hO37_5_15.ext hQ2, hN38_5_15⟩
    · obtain ⟨A47_11_16, k48_11_16, hQe, hO51_11_16, hN52_11_16⟩ := hQ1
      exact ⟨A47_11_16, k48_11_16, hQe, hO51_11_16.ext hQ2, hN52_11_16⟩
    · obtain ⟨A58_14_17, k62_14_17, hQe, hO60_14_17, hN61_14_17⟩ := hQ1
      exact ⟨A58_14_17, k62_14_17, hQe, hO60_14_17.ext hQ2, hN61_14_17⟩
  · refine ⟨⟨rfl, ⟨rfl, trivial⟩, ?_⟩, ⟨rfl, trivial, ?_⟩, ⟨rfl, ⟨rfl, trivial⟩, ?_⟩, ⟨rfl, trivial, ?_⟩, ⟨rfl, ⟨rfl, trivial⟩, ?_⟩, ⟨rfl, trivial, ?_⟩, ⟨rfl, ⟨rfl, trivial⟩, ?_⟩, ⟨rfl, trivial, ?_⟩, ⟨rfl, ⟨rfl, trivial⟩, ?_⟩, ⟨rfl, trivial, ?_⟩, ⟨rfl, ⟨rfl, trivial⟩, ?_⟩, ⟨rfl, trivial, ?_⟩, ⟨rfl, ⟨rfl, trivial⟩, ?_⟩, ⟨rfl, trivial, ?_⟩, ⟨rfl, trivial, ?_⟩, ⟨rfl, trivial, ?_⟩, ⟨rfl, trivial, ?_⟩, ⟨rfl, trivial, ?_⟩, trivial⟩
    · intro w26 hE
      intro RR
      refine WL.fieldA (off := 0) Try.fla24_0 rfl rfl ?_
      exact WL.done ⟨_, rfl, rfl, rfl, (fun h => absurd h (by decide)), (fun j h => by cases h)⟩
    · intro w27 hE
      have hE := hE rfl
      have hS := hS.grow hE
      rintro _ rfl
      intro RR
      refine WL.load Try.underlying3 rfl rfl (Own.vcells (hS.own (i := 2) rfl) 0 _ rfl) rfl ?_
      exact WL.done ⟨_, rfl, ext_refl _, rfl, (fun h => absurd h (by decide)), (fun j h => by cases h)⟩
    · intro w28 hE
      intro RR
      refine WL.fieldA (off := 1) Try.fla24_1 rfl rfl ?_
      exact WL.done ⟨_, rfl, rfl, rfl, (fun h => absurd h (by decide)), (fun j h => by cases h)⟩
    · intro w29 hE
      have hE := hE rfl
      have hS := hS.grow hE
      rintro _ rfl
      intro RR
      refine WL.load Try.underlying3 rfl rfl (Own.vcells (hS.own (i := 2) rfl) 1 _ rfl) rfl ?_
      exact WL.done ⟨_, rfl, ext_refl _, rfl, (fun h => absurd h (by decide)), (fun j h => by cases h)⟩
    · intro w30 hE
      intro RR
      refine WL.move rfl rfl ?_
      exact WL.done ⟨_, rfl, rfl, rfl, (fun h => absurd h (by decide)), (fun j h => by cases h)⟩
    · intro w31 hE
      have hE := hE rfl
      have hS := hS.grow hE
      rintro _ rfl
      rintro _ rfl
      rintro _ rfl
      intro RR
      refine WL.call Try.func85 rfl Try.nm85 rfl rfl (calls_un (ok_digits  o39)) ?_
      rintro _ w36 ⟨_, hGw36, hRww36, hNww36, x32q, A33, k34, rfl, rfl, he⟩
      subst he
      have hO37 := (hRww36.get (i := 0) rfl).1
      have hN38 : ∀ g, bl A33 = some g → _ ≤ g := fun g hg => Nat.le_trans hE.size (hNww36.1 g hg)
      exact WL.done ⟨_, rfl, hGw36, ⟨A33, k34, rfl, hO37, hN38⟩, (fun _ => fun g hg => ⟨hNww36.1 g hg, (hO37.bl_ge g hg).2⟩), (fun j h => by cases h)⟩
    · intro w40 hE
      intro RR
      refine WL.fieldA (off := 0) Try.fla24_0 rfl rfl ?_
      exact WL.done ⟨_, rfl, rfl, rfl, (fun h => absurd h (by decide)), (fun j h => by cases h)⟩
    · intro w41 hE
      have hE := hE rfl
      have hS := hS.grow hE
      rintro _ rfl
      intro RR
      refine WL.load Try.underlying3 rfl rfl (Own.vcells (hS.own (i := 2) rfl) 0 _ rfl) rfl ?_
      exact WL.done ⟨_, rfl, ext_refl _, rfl, (fun h => absurd h (by decide)), (fun j h => by cases h)⟩
    · intro w42 hE
      intro RR
      refine WL.fieldA (off := 1) Try.fla24_1 rfl rfl ?_
      exact WL.done ⟨_, rfl, rfl, rfl, (fun h => absurd h (by decide)), (fun j h => by cases h)⟩
    · intro w43 hE
      have hE := hE rfl
      have hS := hS.grow hE
      rintro _ rfl
      intro RR
      refine WL.load Try.underlying3 rfl rfl (Own.vcells (hS.own (i := 2) rfl) 1 _ rfl) rfl ?_
      exact WL.done ⟨_, rfl, ext_refl _, rfl, (fun h => absurd h (by decide)), (fun j h => by cases h)⟩
    · intro w44 hE
      intro RR
      refine WL.move rfl rfl ?_
      exact WL.done ⟨_, rfl, rfl, rfl, (fun h => absurd h (by decide)), (fun j h => by cases h)⟩
    · intro w45 hE
      have hE := hE rfl
      have hS := hS.grow hE
      rintro _ rfl
      rintro _ rfl
      rintro _ rfl
      intro RR
      refine WL.call Try.func85 rfl Try.nm85 rfl rfl (calls_un (ok_digits  o53)) ?_
      rintro _ w50 ⟨_, hGw50, hRww50, hNww50, x46q, A47, k48, rfl, rfl, he⟩
      subst he
      have hO51 := (hRww50.get (i := 0) rfl).1
      have hN52 : ∀ g, bl A47 = some g → _ ≤ g := fun g hg => Nat.le_trans hE.size (hNww50.1 g hg)
      exact WL.done ⟨_, rfl, hGw50, ⟨A47, k48, rfl, hO51, hN52⟩, (fun _ => fun g hg => ⟨hNww50.1 g hg, (hO51.bl_ge g hg).2⟩), (fun j h => by cases h)⟩
    · intro w54 hE
      intro RR
      refine WL.fieldA (off := 1) Try.fla24_1 rfl rfl ?_
      exact WL.done ⟨_, rfl, rfl, rfl, (fun h => absurd h (by decide)), (fun j h => by cases h)⟩
    · intro w55 hE
      have hE := hE rfl
      have hS := hS.grow hE
      rintro _ rfl
      intro RR
      refine WL.load Try.underlying3 rfl rfl (Own.vcells (hS.own (i := 2) rfl) 1 _ rfl) rfl ?_
      exact WL.done ⟨_, rfl, ext_refl _, rfl, (fun h => absurd h (by decide)), (fun j h => by cases h)⟩
    · intro w56 hE
      have hE := hE rfl
      have hS := hS.grow hE
      rintro _ rfl
      intro RR
      refine SL.makeL (J := Mf) Try.underlying22 Try.el3 rfl rfl o57 (made_is _) rfl ?_
      intro A58 k62 w59 hO60 hN61g hGw59
      have hN61 : ∀ g, bl A58 = some g → _ ≤ g := fun g hg => Nat.le_trans hE.size (hN61g g hg)
      exact WL.done ⟨_, rfl, hGw59, ⟨A58, k62, rfl, hO60, hN61⟩, (fun _ => fun g hg => ⟨hN61g g hg, (hO60.bl_ge g hg).2⟩), (fun j h => by cases h)⟩
    · intro w63 hE
      rintro _ ⟨A33_5, k34_5, rfl, hO37_5, hN38_5⟩
      intro RR
      refine WL.assign rfl rfl ?_
      exact WL.done ⟨_, rfl, rfl, ⟨A33_5, k34_5, rfl, hO37_5, hN38_5⟩, (fun h => absurd h (by decide)), (fun j h => by cases h; rfl)⟩
    · intro w64 hE
      rintro _ ⟨A47_11, k48_11, rfl, hO51_11, hN52_11⟩
      intro RR
      refine WL.assign rfl rfl ?_
      exact WL.done ⟨_, rfl, rfl, ⟨A47_11, k48_11, rfl, hO51_11, hN52_11⟩, (fun h => absurd h (by decide)), (fun j h => by cases h; rfl)⟩
    · intro w65 hE
      rintro _ ⟨A58_14, k62_14, rfl, hO60_14, hN61_14⟩
      intro RR
      refine WL.assign rfl rfl ?_
      exact WL.done ⟨_, rfl, rfl, ⟨A58_14, k62_14, rfl, hO60_14, hN61_14⟩, (fun h => absurd h (by decide)), (fun j h => by cases h; rfl)⟩
  · intro vals w66 hT hVs hAp hCp
    have hS := hS.grow hT
    have hv0 : vals 0 = _ := hVs 0 (by decide)
    have hv1 : vals 1 = _ := hVs 1 (by decide)
    have hv2 : vals 2 = _ := hVs 2 (by decide)
    have hv3 : vals 3 = _ := hVs 3 (by decide)
    have hv4 : vals 4 = _ := hVs 4 (by decide)
    obtain ⟨A33_5, k34_5, hv5, hO37_5, hN38_5⟩ := hVs 5 (by decide)
    have hv6 : vals 6 = _ := hVs 6 (by decide)
    have hv7 : vals 7 = _ := hVs 7 (by decide)
    have hv8 : vals 8 = _ := hVs 8 (by decide)
    have hv9 : vals 9 = _ := hVs 9 (by decide)
    have hv10 : vals 10 = _ := hVs 10 (by decide)
    obtain ⟨A47_11, k48_11, hv11, hO51_11, hN52_11⟩ := hVs 11 (by decide)
    have hv12 : vals 12 = _ := hVs 12 (by decide)
    have hv13 : vals 13 = _ := hVs 13 (by decide)
    obtain ⟨A58_14, k62_14, hv14, hO60_14, hN61_14⟩ := hVs 14 (by decide)
    have hv15 : vals 15 = .slice A33_5 x32.length k34_5 := (hCp 15 5 (by decide) rfl).trans hv5
    have hv16 : vals 16 = .slice A47_11 x46.length k48_11 := (hCp 16 11 (by decide) rfl).trans hv11
    have hv17 : vals 17 = .slice A58_14 Mf.toNat k62_14 := (hCp 17 14 (by decide) rfl).trans hv14
    have hS := St.addOwn [] hS0 hS hO37_5 hN38_5 (fun s hs => by cases hs)
    have hap11_5 : ∀ g, bl A47_11 = some g → bl A33_5 ≠ some g := by have := hAp 11 5 (by decide) (by decide) (by decide) rfl rfl; rw [hv11, hv5] at this; exact this
    have hS := St.addOwn [.row 3 1 A33_5 x32.length k34_5 (is x32)] hS0 hS hO51_11 hN52_11 (by intro s hs g hg; simp only [List.mem_cons, List.not_mem_nil, or_false] at hs; obtain rfl := hs; exact hap11_5 g hg)
    have hap14_11 : ∀ g, bl A58_14 = some g → bl A47_11 ≠ some g := by have := hAp 14 11 (by decide) (by decide) (by decide) rfl rfl; rw [hv14, hv11] at this; exact this
    have hap14_5 : ∀ g, bl A58_14 = some g → bl A33_5 ≠ some g := by have := hAp 14 5 (by decide) (by decide) (by decide) rfl rfl; rw [hv14, hv5] at this; exact this
    have hS := St.addOwn [.row 3 1 A47_11 x46.length k48_11 (is x46), .row 3 1 A33_5 x32.length k34_5 (is x32)] hS0 hS hO60_14 hN61_14 (by intro s hs g hg; simp only [List.mem_cons, List.not_mem_nil, or_false] at hs; rcases hs with rfl | rfl <;> first | exact hap14_11 g hg | exact hap14_5 g hg)
    change St _ _ _ _ [.row 3 1 A58_14 Mf.toNat k62_14 (is (List.replicate Mf.toNat (0 : Int))), .row 3 1 A47_11 x46.length k48_11 (is x46), .row 3 1 A33_5 x32.length k34_5 (is x32), .row 3 1 A19 1 1 (is ([(1 : Int)] : List Int)), .row 3 1 A23 ((([] : List Int) ++ ([(1 : Int)] : List Int)).length) k24 (is (([] : List Int) ++ ([(1 : Int)] : List Int))), .row 24 3 (some ⟨g11, 0, none⟩) 1 1 [.int .i64 Pf, .int .i64 Mf, .slice Af mf.length kf]] at hS
    rw [show (List.filterMap (fun i => Option.map (fun t => (t, vals i)) (dstAt _ i)) (List.range _)) = [(15, .pointer (some ⟨g11, 0, none⟩)), (16, .int .i64 Pf), (17, .pointer (some ((⟨g11, 0, none⟩ : Addr).add 1))), (18, .int .i64 Mf), (19, .int .i64 x), (20, .slice A33_5 x32.length k34_5), (21, .pointer (some ⟨g11, 0, none⟩)), (22, .int .i64 Pf), (23, .pointer (some ((⟨g11, 0, none⟩ : Addr).add 1))), (24, .int .i64 Mf), (25, .int .i64 x), (26, .slice A47_11 x46.length k48_11), (27, .pointer (some ((⟨g11, 0, none⟩ : Addr).add 1))), (28, .int .i64 Mf), (29, .slice A58_14 Mf.toNat k62_14), (6, .slice A33_5 x32.length k34_5), (7, .slice A47_11 x46.length k48_11), (8, .slice A58_14 Mf.toNat k62_14)] from by
      show [(15, vals 0), (16, vals 1), (17, vals 2), (18, vals 3), (19, vals 4), (20, vals 5), (21, vals 6), (22, vals 7), (23, vals 8), (24, vals 9), (25, vals 10), (26, vals 11), (27, vals 12), (28, vals 13), (29, vals 14), (6, vals 15), (7, vals 16), (8, vals 17)] = _
      rw [hv0, hv1, hv2, hv3, hv4, hv5, hv6, hv7, hv8, hv9, hv10, hv11, hv12, hv13, hv14, hv15, hv16, hv17]]
    refine WA.done (by decide +kernel) ?_
    refine W.seq ?_
    refine W.block ?_
    obtain ⟨I119, μ120, hv, hk134⟩ := hv
    have hS := hS.pick [1, 0, 2, 3, 4, 5] rfl
    have hm1 : Mf.toNat = (List.replicate Mf.toNat (0 : Int)).length := (hS.rd (i := 1) rfl).ilen.symm
    have hS := hS.relen (i := 1) rfl hm1
    change St _ _ _ _ [.row 3 1 A47_11 x46.length k48_11 (is x46), .row 3 1 A58_14 (List.replicate Mf.toNat (0 : Int)).length k62_14 (is (List.replicate Mf.toNat (0 : Int))), .row 3 1 A33_5 x32.length k34_5 (is x32), .row 3 1 A19 1 1 (is ([(1 : Int)] : List Int)), .row 3 1 A23 (([] : List Int) ++ ([(1 : Int)] : List Int)).length k24 (is (([] : List Int) ++ ([(1 : Int)] : List Int))), .row 24 3 (some ⟨g11, 0, none⟩) 1 1 [.int .i64 Pf, .int .i64 Mf, .slice Af mf.length kf]] at hS
    refine W.loop (σ := List Int × Int × List Int × List Int × Option Addr × Nat × Option Addr × Nat × Option Addr × Nat) (fun q w1 => match q with | (x107, z110, x111, x115, A108, k109, A112, k113, A116, k117) => I119 x107 z110 x111 x115 ∧ St TT w none w1 [.row 3 1 A112 x111.length k113 (is x111), .row 3 1 A116 x115.length k117 (is x115), .row 3 1 A33_5 x32.length k34_5 (is x32), .row 3 1 A19 1 1 (is ([(1 : Int)] : List Int)), .row 3 1 A108 x107.length k109 (is x107), .row 24 3 (some ⟨g11, 0, none⟩) 1 1 [.int .i64 Pf, .int .i64 Mf, .slice Af mf.length kf]]) (fun q => match q with | (x107, z110, x111, x115, A108, k109, A112, k113, A116, k117) => [(1, .int .i64 z110), (2, .pointer (some ⟨g11, 0, none⟩)), (4, .slice none 0 0), (5, .slice A108 x107.length k109), (6, .slice A33_5 x32.length k34_5), (7, .slice A112 x111.length k113), (8, .slice A116 x115.length k117)]) (fun q => match q with | (x107, z110, x111, x115, A108, k109, A112, k113, A116, k117) => μ120 x107 z110 x111 x115) (([] : List Int) ++ ([(1 : Int)] : List Int), x, x46, List.replicate Mf.toNat (0 : Int), A23, k24, A47_11, k48_11, A58_14, k62_14) ⟨hv, hS⟩ ⟨rfl, rfl, rfl, rfl, rfl, rfl, (sm (by first | rfl | assumption | omega)), trivial⟩ ?_
    rintro ⟨x107, z110, x111, x115, A108, k109, A112, k113, A116, k117⟩ w121 ⟨hv, hS⟩
    have hv := hk134 x107 z110 x111 x115 hv
    refine W.seq ?_
    refine W.seq ?_
    refine W.region ?_
    refine WL.move rfl rfl ?_
    refine WL.neqD rfl rfl rfl ?_
    refine WL.done ?_
    refine W.cond2 rfl (fun c122 => ?_) (fun c122 => ?_)
    · have hv := hv.1 (of_decide_eq_true c122)
      refine W.skip ?_
      refine W.block ?_
      refine W.seq ?_
      refine W.region ?_
      refine WL.move rfl rfl ?_
      refine WL.move rfl rfl ?_
      refine SL.lit1 (vs := is ([z110] : List Int)) hS Try.underlying22 Try.el3 rfl rfl rfl rfl (is_one _) rfl ?_
      intro A123 w124 hS
      obtain ⟨o126, hv⟩ := hv
      refine SL.append (cs := is x107) (cs' := is ([z110] : List Int)) 5 ((x107 ++ ([z110] : List Int)).length) (is (x107 ++ ([z110] : List Int))) hS rfl Try.underlying22 Try.el3 (hS.rd (i := 0) rfl) (is_one _) rfl rfl (apk o126).1 (apk o126).2 (is_ap (hS.rd (i := 5) rfl) (hS.rd (i := 0) rfl)) (is_append _ _) rfl ?_
      intro A127 k128 w129 hS
      refine WL.assign rfl rfl ?_
      refine WL.done ?_
      refine W.seq ?_
      refine W.region ?_
      refine WL.loadV (cs := [.int .i64 Pf, .int .i64 Mf, .slice Af mf.length kf]) Try.el24 Try.agg24 rfl rfl (Own.vcells (hS.own (i := 6) rfl)) rfl ?_
      refine WL.move rfl rfl ?_
      refine WL.move rfl rfl ?_
      refine WL.move rfl rfl ?_
      refine SL.callm 2 hS rfl (ok_product (hS.ro hf) (hS.own (i := 2) rfl) (hS.rd (i := 1) rfl) (hS.rd (i := 3) rfl) (hS.aptRo (i := 2) rfl hf) (hS.aptRow (i := 2) (j := 1) (by decide) rfl rfl) (hS.aptRow (i := 2) (j := 3) (by decide) rfl rfl) hv) Try.func87 rfl Try.nm87 rfl rfl ?_
      rintro _ _ w130 ⟨x131, rfl, rfl, hv⟩ hS
      change St _ _ _ _ [.row 3 1 A123 1 1 (is ([z110] : List Int)), .row 3 1 A112 x111.length k113 (is x111), .row 3 1 A116 x115.length k117 (is x131), .row 3 1 A33_5 x32.length k34_5 (is x32), .row 3 1 A19 1 1 (is ([(1 : Int)] : List Int)), .row 3 1 A127 ((x107 ++ ([z110] : List Int)).length) k128 (is (x107 ++ ([z110] : List Int))), .row 24 3 (some ⟨g11, 0, none⟩) 1 1 [.int .i64 Pf, .int .i64 Mf, .slice Af mf.length kf]] at hS
      refine WL.done ?_
      refine W.seq ?_
      refine W.region ?_
      refine WL.move rfl rfl ?_
      refine WL.move rfl rfl ?_
      refine WL.assign rfl rfl ?_
      refine WL.assign rfl rfl ?_
      refine WL.done ?_
      refine W.region ?_
      refine WL.fieldA (off := 0) Try.fla24_0 rfl rfl ?_
      refine WL.load Try.underlying3 rfl rfl (Own.vcells (hS.own (i := 6) rfl) 0 _ rfl) rfl ?_
      refine WL.move rfl rfl ?_
      refine SL.call hS (ok_fromDigits (hS.rd (i := 2) rfl) hv) Try.func88 rfl Try.nm88 rfl rfl ?_
      rintro _ _ w132 ⟨r133, rfl, rfl, hv⟩ hGw132 hS
      change St _ _ _ _ [.row 3 1 A123 1 1 (is ([z110] : List Int)), .row 3 1 A112 x111.length k113 (is x111), .row 3 1 A116 x115.length k117 (is x131), .row 3 1 A33_5 x32.length k34_5 (is x32), .row 3 1 A19 1 1 (is ([(1 : Int)] : List Int)), .row 3 1 A127 ((x107 ++ ([z110] : List Int)).length) k128 (is (x107 ++ ([z110] : List Int))), .row 24 3 (some ⟨g11, 0, none⟩) 1 1 [.int .i64 Pf, .int .i64 Mf, .slice Af mf.length kf]] at hS
      refine WL.assign rfl rfl ?_
      refine WL.done ?_
      have hS := hS.pick [2, 1, 3, 4, 5, 6] rfl
      have hm0 : x115.length = x131.length := (hS.rd (i := 0) rfl).ilen.symm
      have hS := hS.relen (i := 0) rfl hm0
      change St _ _ _ _ [.row 3 1 A116 x131.length k117 (is x131), .row 3 1 A112 x111.length k113 (is x111), .row 3 1 A33_5 x32.length k34_5 (is x32), .row 3 1 A19 1 1 (is ([(1 : Int)] : List Int)), .row 3 1 A127 (x107 ++ ([z110] : List Int)).length k128 (is (x107 ++ ([z110] : List Int))), .row 24 3 (some ⟨g11, 0, none⟩) 1 1 [.int .i64 Pf, .int .i64 Mf, .slice Af mf.length kf]] at hS
      exact ⟨(x107 ++ ([z110] : List Int), r133, x131, x111, A127, k128, A116, k117, A112, k113), ⟨rfl, rfl, rfl, rfl, rfl, (sm (by first | rfl | assumption | omega)), rfl, trivial⟩, hv.2, rfl, hv.1, hS⟩
    · have hv := hv.2 (of_decide_eq_false c122)
      refine W.exit ?_
      refine W.seq ?_
      refine W.region ?_
      refine WL.move rfl rfl ?_
      refine WL.assign rfl rfl ?_
      refine WL.done ?_
      refine W.ret ?_
      refine ⟨_, rfl, Fin.nil ?_⟩
      exact ⟨_, hS.ext, (hS.pick [4] rfl).rows, News.of (hS.pick [4] rfl).rows rfl, ⟨x107, A108, k109, rfl, rfl, hv⟩⟩

def V_units (Fg : GFv) (Q : List Int → Prop) : Prop :=
  (0 ≤ Fg.q ∧ Fg.q * 1 ≤ 281474976710656 ∧ Fg.q ≤ 281474976710656) ∧ ((0 ≤ (0 : Int) ∧ (0 : Int) < (Fg.q.toNat : Nat)) ∧ (V_elements Fg (fun _ => I64 Fg.q ∧ ∃ (I42 : Nat → List Int → List Bool → Prop) (J43 : List Int → List Bool → Prop), I42 0 ([] : List Int) (sb (List.replicate Fg.q.toNat false) (0 : Int) true) ∧ (∀ i26 : Nat, i26 < Fg.q.toNat → ∀ (x37 : List Int) (x41 : List Bool), I42 i26 x37 x41 → ((0 ≤ (i26 : Int) ∧ (i26 : Int) < (Fg.q.toNat : Nat)) ∧ ((((gb x41 (i26 : Int)) = true) → (I42 (i26 + 1) x37 x41)) ∧ ((gb x41 (i26 : Int)) = false → (V_powers Fg.P Fg.M Fg.mod (i26 : Int) (fun x48 => (I64 (Fg.q - (1 : Int))) ∧ (((((x48.length : Nat) : Int) = (Fg.q - (1 : Int))) → J43 x48 x41) ∧ (¬ (((x48.length : Nat) : Int) = (Fg.q - (1 : Int))) → (∃ (I70 : List Bool → Int → Prop) (μ71 : List Bool → Int → Nat), I70 x41 (0 : Int) ∧ ∀ (x68 : List Bool) (z69 : Int), (I70 x68 z69 → (((z69 < ((x48.length : Nat) : Int)) → ((0 ≤ z69 ∧ z69 < (x48.length : Nat)) ∧ ((0 ≤ (gi x48 z69) ∧ (gi x48 z69) < (Fg.q.toNat : Nat)) ∧ ((I64 (z69 + (1 : Int))) ∧ (I70 (sb x68 (gi x48 z69) true) (z69 + (1 : Int)) ∧ μ71 (sb x68 (gi x48 z69) true) (z69 + (1 : Int)) < μ71 x68 z69))))) ∧ (¬ (z69 < ((x48.length : Nat) : Int)) → (I42 (i26 + 1) x48 x68))))))))))))) ∧ (∀ (x37 : List Int) (x41 : List Bool), I42 Fg.q.toNat x37 x41 → Q x37) ∧ (∀ (x37 : List Int) (x41 : List Bool), J43 x37 x41 → Q x37))))
theorem ok_units {w : World} {Q : List Int → Prop} {Fg : GFv} {ag : Addr} {Bg : Nat} (hgg : GFR Bg w ag Fg) (hv : V_units Fg Q) :
    Calls Try.prog 62 #[.pointer (some ag)] w fun e w' => ∃ v Qr, e = .returned v ∧ w.grownBy w' none ∧ Rows w.heap.size none w' Qr ∧ News w.heap.size Qr ∧ ∃ (x : List Int)  (A : Option Addr) (c : Nat), v = .slice A x.length c ∧ Qr = [.row 3 1 A x.length c (is x)] ∧ Q x := by
  have hgg_ := hgg
  obtain ⟨Ag_mod, kg_mod, Ag_exp, kg_exp, Ag_log, kg_log, Ag_above, kg_above, hg_c, hg_mod, hg_exp, hg_log, hg_above⟩ := hgg_
  refine calls_swap ?_
  refine calls_of_W (vs := [.pointer (some ag)]) [2] Try.func62 rfl rfl rfl rfl ?_
  have hS := St.start w
  unfold V_units at hv
  refine W.seq ?_
  refine W.region ?_
  refine SL.box (z := 1) (cs := [.pointer (some ag)]) hS rfl rfl rfl rfl ?_
  intro g11 w12 hS
  refine WL.assign rfl rfl ?_
  refine WL.done ?_
  refine W.seq ?_
  refine W.region ?_
  refine WL.load Try.underlying25 rfl rfl (Own.vcells (hS.own (i := 0) rfl) 0 _ rfl) rfl ?_
  refine WL.nilCheck rfl rfl ?_
  refine WL.fieldA (off := 3) Try.fla69_1 rfl rfl ?_
  refine WL.load Try.underlying3 rfl rfl (Rd.at_ (hS.ro hg_c) (j := 3) rfl) rfl ?_
  obtain ⟨o13, hv⟩ := hv
  refine SL.make (J := Fg.q) hS Try.underlying92 Try.el4 rfl rfl o13 (made_bs _) rfl ?_
  intro A14 w15 hS
  refine SL.alloc (cs := [.slice none 0 0]) hS Try.el92 rfl rfl ?_
  intro g17 w18 hS
  refine SL.store (cs' := [.slice A14 Fg.q.toNat Fg.q.toNat]) 0 0 hS rfl Try.el92 rfl rfl rfl (of_ble rfl) rfl ?_
  intro w19 hS
  refine WL.done ?_
  refine W.seq ?_
  refine W.region ?_
  refine WL.load Try.underlying92 rfl rfl (Own.vcells (hS.own (i := 0) rfl) 0 _ rfl) rfl ?_
  obtain ⟨o20, hv⟩ := hv
  refine SL.index Try.underlying92 Try.el4 (hS.rd (i := 1) rfl) rfl rfl o20 rfl ?_
  refine SL.store (cs' := bs (sb (List.replicate Fg.q.toNat false) (0 : Int) true)) 1 (0 : Int).toNat hS rfl Try.el4 rfl rfl rfl (bs_lt (hS.rd (i := 1) rfl) o20) (bs_set _ _ _) ?_
  intro w21 hS
  refine WL.done ?_
  refine W.seq ?_
  refine W.region ?_
  refine SL.alloc (cs := [.slice none 0 0]) hS Try.el22 rfl rfl ?_
  intro g22 w23 hS
  refine WL.done ?_
  refine W.seq ?_
  refine W.seq ?_
  refine W.region ?_
  refine WL.load Try.underlying25 rfl rfl (Own.vcells (hS.own (i := 3) rfl) 0 _ rfl) rfl ?_
  refine SL.call hS (ok_elements (GFR.ext (GFR.norm hgg) hS.ext) hv) Try.func76 rfl Try.nm76 rfl rfl ?_
  rintro _ _ w24 ⟨g25, rfl, rfl, hv⟩ hGw24 hS
  change St _ _ _ _ [.row 25 1 (some ⟨g25, 0, none⟩) 1 1 [.pointer (some ag)], .row 22 1 (some ⟨g22, 0, none⟩) 1 1 [.slice none 0 0], .row 92 1 (some ⟨g17, 0, none⟩) 1 1 [.slice A14 Fg.q.toNat Fg.q.toNat], .row 4 1 A14 Fg.q.toNat Fg.q.toNat (bs (sb (List.replicate Fg.q.toNat false) (0 : Int) true)), .row 25 1 (some ⟨g11, 0, none⟩) 1 1 [.pointer (some ag)]] at hS
  refine WL.done ?_
  refine W.block ?_
  obtain ⟨o85, hv⟩ := hv
  obtain ⟨I42, J43, hv, hk82, hd83, hx84⟩ := hv
  have hS := hS.nil (e := 3) (z := 1)
  have hm0 : 0 = ([] : List Int).length := (hS.rd (i := 0) rfl).ilen.symm
  have hS := hS.relen (i := 0) rfl hm0
  change St _ _ _ _ [.row 3 1 none ([] : List Int).length 0 (is ([] : List Int)), .row 25 1 (some ⟨g25, 0, none⟩) 1 1 [.pointer (some ag)], .row 22 1 (some ⟨g22, 0, none⟩) 1 1 [.slice none ([] : List Int).length 0], .row 92 1 (some ⟨g17, 0, none⟩) 1 1 [.slice A14 Fg.q.toNat Fg.q.toNat], .row 4 1 A14 Fg.q.toNat Fg.q.toNat (bs (sb (List.replicate Fg.q.toNat false) (0 : Int) true)), .row 25 1 (some ⟨g11, 0, none⟩) 1 1 [.pointer (some ag)]] at hS
  refine SR.range (σ := List Int × List Bool × Option Addr × Nat) (fun i q => match q with | (x37, x41, A38, k39) => I42 i x37 x41) (fun q => match q with | (x37, x41, A38, k39) => [.row 3 1 A38 x37.length k39 (is x37), .row 25 1 (some ⟨g25, 0, none⟩) 1 1 [.pointer (some ag)], .row 22 1 (some ⟨g22, 0, none⟩) 1 1 [.slice A38 x37.length k39], .row 92 1 (some ⟨g17, 0, none⟩) 1 1 [.slice A14 Fg.q.toNat Fg.q.toNat], .row 4 1 A14 Fg.q.toNat Fg.q.toNat (bs x41), .row 25 1 (some ⟨g11, 0, none⟩) 1 1 [.pointer (some ag)]]) (fun e q => match e, q with | .exit 0, (x37, x41, A38, k39) => J43 x37 x41 | _, _ => False) (fun vs => [(1, .pointer (some ⟨g11, 0, none⟩)), (2, .slice none 0 0), (3, .pointer (some ⟨g17, 0, none⟩)), (4, .pointer (some ⟨g22, 0, none⟩)), (5, vs.getD 0 undef)]) (([] : List Int), sb (List.replicate Fg.q.toNat false) (0 : Int) true, none, 0) hS hv (fun q => by obtain ⟨x37, x41, A38, k39⟩ := q; exact trivial) rfl Try.func86 rfl Try.nm86 (elements_seq o85 (Own.vcells (hS.own (i := 1) rfl) 0 _ rfl) (Rd.at_ (hS.ro hg_c) (j := 3) rfl)) (Below.refl _ _) (fun _ _ _ h => by rw [h]; rfl) (fun _ _ _ _ _ h _ _ => h) (by decide) (fun _ _ _ _ _ => trivial) ?_ ?_ ?_ ?_
  · intro lq vsq W1q hlq
    match vsq, hlq with
    | [a0], _ =>
      refine W.region ?_
      refine WL.assign rfl rfl ?_
      refine WL.done ?_
      exact ⟨rfl, rfl, ⟨rfl, rfl, rfl, rfl, rfl, trivial⟩⟩
  · rintro lq i26 _ ⟨x37, x41, A38, k39⟩ w44 hi rfl hI hS
    have hv := hk82 i26 hi x37 x41 hI
    refine W.block ?_
    refine W.seq ?_
    refine W.seq ?_
    refine W.region ?_
    refine WL.load Try.underlying92 rfl rfl (Own.vcells (hS.own (i := 3) rfl) 0 _ rfl) rfl ?_
    refine WL.move rfl rfl ?_
    obtain ⟨o45, hv⟩ := hv
    refine SL.index Try.underlying92 Try.el4 (hS.rd (i := 4) rfl) rfl rfl o45 rfl ?_
    refine WL.load Try.underlying4 rfl rfl (Rd.gb (hS.rd (i := 4) rfl) o45) rfl ?_
    refine WL.done ?_
    refine W.cond2 rfl (fun c46 => ?_) (fun c46 => ?_)
    · have hv := hv.1 (c46)
      refine W.exit ?_
      change St _ _ _ _ [.row 3 1 A38 x37.length k39 (is x37), .row 25 1 (some ⟨g25, 0, none⟩) 1 1 [.pointer (some ag)], .row 22 1 (some ⟨g22, 0, none⟩) 1 1 [.slice A38 x37.length k39], .row 92 1 (some ⟨g17, 0, none⟩) 1 1 [.slice A14 Fg.q.toNat Fg.q.toNat], .row 4 1 A14 Fg.q.toNat Fg.q.toNat (bs x41), .row 25 1 (some ⟨g11, 0, none⟩) 1 1 [.pointer (some ag)]] at hS
      exact ⟨(x37, x41, A38, k39), hv, hS⟩
    · have hv := hv.2 (c46)
      refine W.skip ?_
      refine W.seq ?_
      refine W.region ?_
      refine WL.load Try.underlying25 rfl rfl (Own.vcells (hS.own (i := 5) rfl) 0 _ rfl) rfl ?_
      refine WL.nilCheck rfl rfl ?_
      refine WL.fieldA (off := 0) Try.fla69_0 rfl rfl ?_
      refine WL.loadV (cs := [.int .i64 Fg.P, .int .i64 Fg.M, .slice Ag_mod Fg.mod.length kg_mod]) Try.el24 Try.agg24 rfl rfl (vpart (hS.ro hg_c) 0 rfl) rfl ?_
      refine WL.move rfl rfl ?_
      refine SL.call hS (ok_powers (hS.ro hg_mod) hv) Try.func77 rfl Try.nm77 rfl rfl ?_
      rintro _ _ w47 ⟨x48, A49, k50, rfl, rfl, hv⟩ hGw47 hS
      change St _ _ _ _ [.row 3 1 A49 x48.length k50 (is x48), .row 3 1 A38 x37.length k39 (is x37), .row 25 1 (some ⟨g25, 0, none⟩) 1 1 [.pointer (some ag)], .row 22 1 (some ⟨g22, 0, none⟩) 1 1 [.slice A38 x37.length k39], .row 92 1 (some ⟨g17, 0, none⟩) 1 1 [.slice A14 Fg.q.toNat Fg.q.toNat], .row 4 1 A14 Fg.q.toNat Fg.q.toNat (bs x41), .row 25 1 (some ⟨g11, 0, none⟩) 1 1 [.pointer (some ag)]] at hS
      refine SL.store (cs' := [.slice A49 x48.length k50]) 3 0 hS rfl Try.el22 rfl rfl rfl (of_ble rfl) rfl ?_
      intro w52 hS
      refine WL.done ?_
      refine W.seq ?_
      refine W.seq ?_
      obtain ⟨o60, hv⟩ := hv
      have hS0 := hS
      refine W.drawX 8 (fun _ => false) (fun _ => none) [⟨[], [4], false⟩, ⟨[0], [], true⟩, ⟨[], [1], false⟩, ⟨[2], [], true⟩, ⟨[3], [], true⟩, ⟨[4], [], false⟩, ⟨[5], [], true⟩, ⟨[1, 6], [], true⟩] [[(4, .pointer (some ⟨g22, 0, none⟩))], [], [(1, .pointer (some ⟨g11, 0, none⟩))], [], [], [], [], []] (fun iQ => [fun v _ => v = .slice A49 x48.length k50, fun v _ => v = .int .i64 ((x48.length : Nat) : Int), fun v _ => v = .pointer (some ag), fun v _ => v = .pointer (some ag), fun v _ => v = .pointer (some (ag.add 3)), fun v _ => v = .int .i64 Fg.q, fun v _ => v = .int .i64 (Fg.q - (1 : Int)), fun v _ => v = .bool (decide (((x48.length : Nat) : Int) = (Fg.q - (1 : Int))))].getD iQ (fun _ _ => True)) Try.mixed (by kernel_rfl) ?_ (by kernel_rfl) ?_ ?_
      · refine Vs_monoT _ ?_
        intro VQ hVQ vQ wQ1 wQ2 hQ1 hQ2
        simp only [List.mem_cons, List.not_mem_nil, or_false] at hVQ
        rcases hVQ with rfl | rfl | rfl | rfl | rfl | rfl | rfl | rfl
        · exact hQ1
        · exact hQ1
        · exact hQ1
        · exact hQ1
        · exact hQ1
        · exact hQ1
        · exact hQ1
        · exact hQ1
      · refine ⟨⟨rfl, ⟨rfl, trivial⟩, ?_⟩, ⟨rfl, trivial, ?_⟩, ⟨rfl, ⟨rfl, trivial⟩, ?_⟩, ⟨rfl, trivial, ?_⟩, ⟨rfl, trivial, ?_⟩, ⟨rfl, trivial, ?_⟩, ⟨rfl, trivial, ?_⟩, ⟨rfl, trivial, ?_⟩, trivial⟩
        · intro w53 hE
          have hE := hE rfl
          have hS := hS.grow hE
          intro RR
          refine WL.load Try.underlying22 rfl rfl (Own.vcells (hS.own (i := 3) rfl) 0 _ rfl) rfl ?_
          exact WL.done ⟨_, rfl, ext_refl _, rfl, (fun h => absurd h (by decide)), (fun j h => by cases h)⟩
        · intro w54 hE
          rintro _ rfl
          intro RR
          refine WL.len Try.underlying22 rfl rfl ?_
          exact WL.done ⟨_, rfl, rfl, rfl, (fun h => absurd h (by decide)), (fun j h => by cases h)⟩
        · intro w55 hE
          have hE := hE rfl
          have hS := hS.grow hE
          intro RR
          refine WL.load Try.underlying25 rfl rfl (Own.vcells (hS.own (i := 6) rfl) 0 _ rfl) rfl ?_
          exact WL.done ⟨_, rfl, ext_refl _, rfl, (fun h => absurd h (by decide)), (fun j h => by cases h)⟩
        · intro w56 hE
          rintro _ rfl
          intro RR
          refine WL.nilCheck rfl rfl ?_
          exact WL.done ⟨_, rfl, rfl, rfl, (fun h => absurd h (by decide)), (fun j h => by cases h)⟩
        · intro w57 hE
          rintro _ rfl
          intro RR
          refine WL.fieldA (off := 3) Try.fla69_1 rfl rfl ?_
          exact WL.done ⟨_, rfl, rfl, rfl, (fun h => absurd h (by decide)), (fun j h => by cases h)⟩
        · intro w58 hE
          have hE := hE rfl
          have hS := hS.grow hE
          rintro _ rfl
          intro RR
          refine WL.load Try.underlying3 rfl rfl (Rd.at_ (hS.ro hg_c) (j := 3) rfl) rfl ?_
          exact WL.done ⟨_, rfl, ext_refl _, rfl, (fun h => absurd h (by decide)), (fun j h => by cases h)⟩
        · intro w59 hE
          rintro _ rfl
          intro RR
          refine WL.sub (r := (Fg.q - (1 : Int))) rfl rfl (wr o60) rfl ?_
          exact WL.done ⟨_, rfl, rfl, rfl, (fun h => absurd h (by decide)), (fun j h => by cases h)⟩
        · intro w61 hE
          rintro _ rfl
          rintro _ rfl
          intro RR
          refine WL.eqlD rfl rfl rfl ?_
          exact WL.done ⟨_, rfl, rfl, rfl, (fun h => absurd h (by decide)), (fun j h => by cases h)⟩
      · intro vals w62 hT hVs hAp hCp
        have hS := hS.grow hT
        have hv0 : vals 0 = _ := hVs 0 (by decide)
        have hv1 : vals 1 = _ := hVs 1 (by decide)
        have hv2 : vals 2 = _ := hVs 2 (by decide)
        have hv3 : vals 3 = _ := hVs 3 (by decide)
        have hv4 : vals 4 = _ := hVs 4 (by decide)
        have hv5 : vals 5 = _ := hVs 5 (by decide)
        have hv6 : vals 6 = _ := hVs 6 (by decide)
        have hv7 : vals 7 = _ := hVs 7 (by decide)
        rw [show (List.filterMap (fun i => Option.map (fun t => (t, vals i)) (dstAt _ i)) (List.range _)) = [(28, .slice A49 x48.length k50), (29, .int .i64 ((x48.length : Nat) : Int)), (30, .pointer (some ag)), (31, .pointer (some ag)), (32, .pointer (some (ag.add 3))), (33, .int .i64 Fg.q), (34, .int .i64 (Fg.q - (1 : Int))), (35, .bool (decide (((x48.length : Nat) : Int) = (Fg.q - (1 : Int)))))] from by
          show [(28, vals 0), (29, vals 1), (30, vals 2), (31, vals 3), (32, vals 4), (33, vals 5), (34, vals 6), (35, vals 7)] = _
          rw [hv0, hv1, hv2, hv3, hv4, hv5, hv6, hv7]]
        refine WA.done (by decide +kernel) ?_
        refine W.cond2 rfl (fun c63 => ?_) (fun c63 => ?_)
        · have hv := hv.1 (of_decide_eq_true c63)
          refine W.exit ?_
          have hS := hS.pick [0, 2, 3, 4, 5, 6] rfl
          change St _ _ _ _ [.row 3 1 A49 x48.length k50 (is x48), .row 25 1 (some ⟨g25, 0, none⟩) 1 1 [.pointer (some ag)], .row 22 1 (some ⟨g22, 0, none⟩) 1 1 [.slice A49 x48.length k50], .row 92 1 (some ⟨g17, 0, none⟩) 1 1 [.slice A14 Fg.q.toNat Fg.q.toNat], .row 4 1 A14 Fg.q.toNat Fg.q.toNat (bs x41), .row 25 1 (some ⟨g11, 0, none⟩) 1 1 [.pointer (some ag)]] at hS
          exact ⟨(x48, x41, A49, k50), rfl, hv, hS⟩
        · have hv := hv.2 (of_decide_eq_false c63)
          refine W.skip ?_
          refine W.seq ?_
          refine W.region ?_
          refine WL.load Try.underlying22 rfl rfl (Own.vcells (hS.own (i := 3) rfl) 0 _ rfl) rfl ?_
          refine WL.len Try.underlying22 rfl rfl ?_
          refine WL.move rfl rfl ?_
          refine WL.done ?_
          refine W.block ?_
          obtain ⟨I70, μ71, hv, hk78⟩ := hv
          change St _ _ _ _ [.row 3 1 A49 x48.length k50 (is x48), .row 3 1 A38 x37.length k39 (is x37), .row 25 1 (some ⟨g25, 0, none⟩) 1 1 [.pointer (some ag)], .row 22 1 (some ⟨g22, 0, none⟩) 1 1 [.slice A49 x48.length k50], .row 92 1 (some ⟨g17, 0, none⟩) 1 1 [.slice A14 Fg.q.toNat Fg.q.toNat], .row 4 1 A14 Fg.q.toNat Fg.q.toNat (bs x41), .row 25 1 (some ⟨g11, 0, none⟩) 1 1 [.pointer (some ag)]] at hS
          refine W.loop (σ := List Bool × Int) (fun q w1 => match q with | (x68, z69) => I70 x68 z69 ∧ St (KO w44) w none w1 [.row 3 1 A49 x48.length k50 (is x48), .row 3 1 A38 x37.length k39 (is x37), .row 25 1 (some ⟨g25, 0, none⟩) 1 1 [.pointer (some ag)], .row 22 1 (some ⟨g22, 0, none⟩) 1 1 [.slice A49 x48.length k50], .row 92 1 (some ⟨g17, 0, none⟩) 1 1 [.slice A14 Fg.q.toNat Fg.q.toNat], .row 4 1 A14 Fg.q.toNat Fg.q.toNat (bs x68), .row 25 1 (some ⟨g11, 0, none⟩) 1 1 [.pointer (some ag)]]) (fun q => match q with | (x68, z69) => [(1, .pointer (some ⟨g11, 0, none⟩)), (2, .slice none 0 0), (3, .pointer (some ⟨g17, 0, none⟩)), (4, .pointer (some ⟨g22, 0, none⟩)), (5, .int .i64 (i26 : Int)), (21, .bool (gb x41 (i26 : Int))), (35, .bool (decide (((x48.length : Nat) : Int) = (Fg.q - (1 : Int))))), (36, .slice A49 x48.length k50), (37, .int .i64 ((x48.length : Nat) : Int)), (38, .int .i64 z69)]) (fun q => match q with | (x68, z69) => μ71 x68 z69) (x41, (0 : Int)) ⟨hv, hS⟩ ⟨rfl, rfl, rfl, rfl, rfl, rfl, rfl, rfl, rfl, rfl, trivial⟩ ?_
          rintro ⟨x68, z69⟩ w72 ⟨hv, hS⟩
          have hv := hk78 x68 z69 hv
          refine W.seq ?_
          refine W.region ?_
          refine WL.lssD rfl rfl rfl ?_
          refine WL.done ?_
          refine W.seq ?_
          refine W.cond2 rfl (fun c73 => ?_) (fun c73 => ?_)
          · have hv := hv.1 (of_decide_eq_true c73)
            refine W.skip ?_
            refine W.seq ?_
            refine W.block ?_
            refine W.seq ?_
            refine W.region ?_
            obtain ⟨o74, hv⟩ := hv
            refine SL.index Try.underlying22 Try.el3 (hS.rd (i := 0) rfl) rfl rfl o74 rfl ?_
            refine WL.load Try.underlying3 rfl rfl (Rd.gi (hS.rd (i := 0) rfl) o74) rfl ?_
            refine WL.assign rfl rfl ?_
            refine WL.done ?_
            refine W.region ?_
            refine WL.load Try.underlying92 rfl rfl (Own.vcells (hS.own (i := 4) rfl) 0 _ rfl) rfl ?_
            refine WL.move rfl rfl ?_
            obtain ⟨o75, hv⟩ := hv
            refine SL.index Try.underlying92 Try.el4 (hS.rd (i := 5) rfl) rfl rfl o75 rfl ?_
            refine SL.store (cs' := bs (sb x68 (gi x48 z69) true)) 5 (gi x48 z69).toNat hS rfl Try.el4 rfl rfl rfl (bs_lt (hS.rd (i := 5) rfl) o75) (bs_set _ _ _) ?_
            intro w76 hS
            refine WL.done ?_
            refine W.region ?_
            obtain ⟨o77, hv⟩ := hv
            refine WL.add (r := (z69 + (1 : Int))) rfl rfl (wr o77) rfl ?_
            refine WL.move rfl rfl ?_
            refine WL.done ?_
            change St _ _ _ _ [.row 3 1 A49 x48.length k50 (is x48), .row 3 1 A38 x37.length k39 (is x37), .row 25 1 (some ⟨g25, 0, none⟩) 1 1 [.pointer (some ag)], .row 22 1 (some ⟨g22, 0, none⟩) 1 1 [.slice A49 x48.length k50], .row 92 1 (some ⟨g17, 0, none⟩) 1 1 [.slice A14 Fg.q.toNat Fg.q.toNat], .row 4 1 A14 Fg.q.toNat Fg.q.toNat (bs (sb x68 (gi x48 z69) true)), .row 25 1 (some ⟨g11, 0, none⟩) 1 1 [.pointer (some ag)]] at hS
            exact ⟨(sb x68 (gi x48 z69) true, (z69 + (1 : Int))), ⟨rfl, rfl, rfl, rfl, rfl, rfl, rfl, rfl, rfl, rfl, trivial⟩, hv.2, rfl, hv.1, hS⟩
          · have hv := hv.2 (of_decide_eq_false c73)
            refine W.exit ?_
            have hS := hS.pick [0, 2, 3, 4, 5, 6] rfl
            change St _ _ _ _ [.row 3 1 A49 x48.length k50 (is x48), .row 25 1 (some ⟨g25, 0, none⟩) 1 1 [.pointer (some ag)], .row 22 1 (some ⟨g22, 0, none⟩) 1 1 [.slice A49 x48.length k50], .row 92 1 (some ⟨g17, 0, none⟩) 1 1 [.slice A14 Fg.q.toNat Fg.q.toNat], .row 4 1 A14 Fg.q.toNat Fg.q.toNat (bs x68), .row 25 1 (some ⟨g11, 0, none⟩) 1 1 [.pointer (some ag)]] at hS
            exact ⟨(x48, x68, A49, k50), hv, hS⟩
  · rintro D79 ⟨x37, x41, A38, k39⟩ w80 hv hD hS
    have hv := hd83 x37 x41 hv
    refine W.seq ?_
    refine W.region ?_
    refine WL.load Try.underlying22 rfl rfl (Own.vcells (hS.own (i := 3) rfl) 0 _ rfl) rfl ?_
    refine WL.assign rfl rfl ?_
    refine WL.done ?_
    refine W.ret ?_
    have hS := hS.pick [0, 1] rfl
    obtain ⟨hDD79, hS⟩ := hS.taken trivial
    refine ⟨_, rfl, Fin.cons hDD79 (Fin.nil ?_)⟩
    exact ⟨_, hS.ext, (hS.pick [0] rfl).rows, News.of (hS.pick [0] rfl).rows rfl, ⟨x37, A38, k39, rfl, rfl, hv⟩⟩
  · rintro D79 e ⟨x37, x41, A38, k39⟩ w80 he hv hD hS
    cases e with
    | exit id =>
      by_cases hid : id = 0
      · subst hid
        have hv := hx84 x37 x41 hv
        refine W.seq ?_
        refine W.region ?_
        refine WL.load Try.underlying22 rfl rfl (Own.vcells (hS.own (i := 3) rfl) 0 _ rfl) rfl ?_
        refine WL.assign rfl rfl ?_
        refine WL.done ?_
        refine W.ret ?_
        have hS := hS.pick [0, 1] rfl
        obtain ⟨hDD79, hS⟩ := hS.taken trivial
        refine ⟨_, rfl, Fin.cons hDD79 (Fin.nil ?_)⟩
        exact ⟨_, hS.ext, (hS.pick [0] rfl).rows, News.of (hS.pick [0] rfl).rows rfl, ⟨x37, A38, k39, rfl, rfl, hv⟩⟩
      · exact absurd hv (by simp [hid])
    | ret => exact hv.elim
    | _ => simp [plainExit] at he
end Go.Proofs.Ytlibahphimfmjaa
set_option linter.unusedSimpArgs false
set_option linter.unusedVariables false
namespace Go.Proofs.Ytlibahphimfmjaa
open Go.RowKit
def V_cloneF (Pf : Int) (Mf : Int) (mf : List Int) (Q : Int × Int × List Int → Prop) : Prop :=
  V_clone mf (fun x16 => Q (Pf, Mf, x16))
theorem ok_cloneF {w : World} {Q : Int × Int × List Int → Prop} {Pf : Int} {Mf : Int} {mf : List Int} {Bf : Nat} {Af : Option Addr} {nf kf : Nat} (hf : Rd Bf w 1 Af nf kf (is mf)) (hv : V_cloneF Pf Mf mf Q) :
    Calls Try.prog 60 #[.agg #[.int .i64 Pf, .int .i64 Mf, .slice Af nf kf]] w fun e w' => ∃ v Qr, e = .returned v ∧ w.grownBy w' none ∧ Rows w.heap.size none w' Qr ∧ News w.heap.size Qr ∧ ∃ (P M : Int) (x : List Int)  (A : Option Addr) (c : Nat), v = .agg #[.int .i64 P, .int .i64 M, .slice A x.length c] ∧ Qr = [.row 3 1 A x.length c (is x)] ∧ Q (P, M, x) := by
  have hnf := hf.ilen
  subst hnf
  refine calls_swap ?_
  refine calls_of_Wc (vs := [.agg #[.int .i64 Pf, .int .i64 Mf, .slice Af mf.length kf]]) [.cell 2 24] Try.func60 rfl rfl rfl rfl ?_
  have hS := St.start w
  unfold V_cloneF at hv
  refine W.seq ?_
  refine W.region ?_
  refine SL.box (z := 3) (cs := [.int .i64 Pf, .int .i64 Mf, .slice Af mf.length kf]) hS rfl rfl rfl rfl ?_
  intro g11 w12 hS
  refine SL.alloc (cs := [.int .i64 (0 : Int), .int .i64 (0 : Int), .slice none 0 0]) hS Try.el24 rfl rfl ?_
  intro g13 w14 hS
  refine WL.done ?_
  refine W.seq ?_
  refine W.region ?_
  refine WL.fieldA (off := 2) Try.fla24_2 rfl rfl ?_
  refine WL.load Try.underlying22 rfl rfl (Own.vcells (hS.own (i := 1) rfl) 2 _ rfl) rfl ?_
  refine SL.call hS (ok_clone (hS.ro hf) hv) Try.func75 rfl Try.nm75 rfl rfl ?_
  rintro _ _ w15 ⟨x16, A17, k18, rfl, rfl, hv⟩ hGw15 hS
  change St _ _ _ _ [.row 3 1 A17 x16.length k18 (is x16), .row 24 3 (some ⟨g13, 0, none⟩) 1 1 [.int .i64 (0 : Int), .int .i64 (0 : Int), .slice none 0 0], .row 24 3 (some ⟨g11, 0, none⟩) 1 1 [.int .i64 Pf, .int .i64 Mf, .slice Af mf.length kf]] at hS
  refine WL.fieldA (off := 2) Try.fla24_2 rfl rfl ?_
  refine SL.store (cs' := [.int .i64 Pf, .int .i64 Mf, .slice A17 x16.length k18]) 2 2 hS rfl Try.el22 rfl rfl rfl (of_ble rfl) rfl ?_
  intro w20 hS
  refine WL.done ?_
  refine W.seq ?_
  refine W.region ?_
  refine WL.loadV (cs := [.int .i64 Pf, .int .i64 Mf, .slice A17 x16.length k18]) Try.el24 Try.agg24 rfl rfl (Own.vcells (hS.own (i := 2) rfl)) rfl ?_
  refine SL.storeV (cs := [.int .i64 Pf, .int .i64 Mf, .slice A17 x16.length k18]) 1 hS rfl Try.el24 rfl rfl rfl rfl rfl ?_
  intro w21 hS
  refine WL.done ?_
  refine W.ret ?_
  repeat with_reducible first | refine blk.ret ?_ | refine exits.retI ?_
  refine endC.mk ⟨[.agg #[.int .i64 Pf, .int .i64 Mf, .slice A17 x16.length k18]], ⟨_, _, _, rfl, rfl, run_loadV (cs := [.int .i64 Pf, .int .i64 Mf, .slice A17 x16.length k18]) Try.el24 Try.agg24 rfl (Own.vcells (hS.own (i := 1) rfl)), rfl⟩, ?_⟩
  exact ⟨_, hS.ext, (hS.pick [0] rfl).rows, News.of (hS.pick [0] rfl).rows rfl, ⟨Pf, Mf, x16, A17, k18, rfl, rfl, hv⟩⟩

def V_New (Pf : Int) (Mf : Int) (mf : List Int) (Q : Option GFv × Int → Prop) : Prop :=
  V_check Pf Mf mf (fun r14 => ((r14 ≠ (0 : Int)) → (Q (none, r14))) ∧ (¬ (r14 ≠ (0 : Int)) → (∃ J24 : Int → Int → List Int → Int → Prop, (V_cloneF Pf Mf mf (fun q => match q with | (r27, r28, x29) => V_order Pf Mf mf (fun r34 => J24 r27 r28 x29 r34))) ∧ ∀ (z17 : Int) (z18 : Int) (x19 : List Int) (z23 : Int), (J24 z17 z18 x19 z23 → (V_units (GFv.mk z17 z18 x19 z23 ([] : List Int) ([] : List Int) ([] : List Int)) (fun x39 => (0 < x39.length ∧ 0 < x39.length ∧ ((x39.length : Nat) + (x39.length : Nat) : Int) * 8 ≤ 140737488355328) ∧ ((0 ≤ z23 ∧ z23 * 8 ≤ 281474976710656 ∧ z23 ≤ 281474976710656) ∧ ((0 ≤ (0 : Int) ∧ (0 : Int) < (z23.toNat : Nat)) ∧ (∃ (I63 : List Int → Int → Prop) (μ64 : List Int → Int → Nat), I63 (si (List.replicate z23.toNat (0 : Int)) (0 : Int) (-1 : Int)) (0 : Int) ∧ ∀ (x61 : List Int) (z62 : Int), (I63 x61 z62 → (((z62 < ((x39.length : Nat) : Int)) → ((0 ≤ z62 ∧ z62 < (x39.length : Nat)) ∧ ((0 ≤ (gi x39 z62) ∧ (gi x39 z62) < (z23.toNat : Nat)) ∧ ((I64 (z62 + (1 : Int))) ∧ (I63 (si x61 (gi x39 z62) z62) (z62 + (1 : Int)) ∧ μ64 (si x61 (gi x39 z62) z62) (z62 + (1 : Int)) < μ64 x61 z62))))) ∧ (¬ (z62 < ((x39.length : Nat) : Int)) → ((0 ≤ ((x39.length : Nat) : Int) ∧ ((x39.length : Nat) : Int) * 8 ≤ 281474976710656 ∧ ((x39.length : Nat) : Int) ≤ 281474976710656) ∧ (∃ (I82 : List Int → Int → Prop) (μ83 : List Int → Int → Nat), I82 (List.replicate ((x39.length : Nat) : Int).toNat (0 : Int)) (0 : Int) ∧ ∀ (x80 : List Int) (z81 : Int), (I82 x80 z81 → (((z81 < ((x39.length : Nat) : Int)) → ((0 ≤ z81 ∧ z81 < (x39.length : Nat)) ∧ (∃ (r99 : Int), V_successor Pf Mf mf (gi x39 z81) (fun q => q = r99) ∧ ((0 ≤ r99 ∧ r99 < (z23.toNat : Nat)) ∧ ((0 ≤ z81 ∧ z81 < (((x39.length : Nat) : Int).toNat : Nat)) ∧ ((I64 (z81 + (1 : Int))) ∧ (I82 (si x80 z81 (gi x61 r99)) (z81 + (1 : Int)) ∧ μ83 (si x80 z81 (gi x61 r99)) (z81 + (1 : Int)) < μ83 x80 z81))))))) ∧ (¬ (z81 < ((x39.length : Nat) : Int)) → (Q (some (GFv.mk z17 z18 x19 z23 (x39 ++ x39) x61 x80), (0 : Int))))))))))))))))))))
theorem ok_New {w : World} {Q : Option GFv × Int → Prop} {Pf : Int} {Mf : Int} {mf : List Int} {Bf : Nat} {Af : Option Addr} {nf kf : Nat} (hf : Rd Bf w 1 Af nf kf (is mf)) (hv : V_New Pf Mf mf Q) :
    Calls Try.prog 38 #[.agg #[.int .i64 Pf, .int .i64 Mf, .slice Af nf kf]] w fun e w' => ∃ v Qr, e = .returned v ∧ w.grownBy w' none ∧ Rows w.heap.size none w' Qr ∧ News w.heap.size Qr ∧ ∃ (o : Option GFv) (e2 : Int), Q (o, e2) ∧ match o with | none => v = .tuple #[.pointer none, .int .i64 e2] ∧ Qr = [] | some F => ∃ (ad : Addr) (lo hi : Nat), v = .tuple #[.pointer (some ad), .int .i64 e2] ∧ Qr = [.ch lo hi (fun wz => GFX lo hi wz ad F)] := by
  have hnf := hf.ilen
  subst hnf
  refine calls_swap ?_
  refine calls_of_W (vs := [.agg #[.int .i64 Pf, .int .i64 Mf, .slice Af mf.length kf]]) [2, 3] Try.func38 rfl rfl rfl rfl ?_
  have hS := St.start w
  unfold V_New at hv
  refine W.seq ?_
  refine W.region ?_
  refine SL.box (z := 3) (cs := [.int .i64 Pf, .int .i64 Mf, .slice Af mf.length kf]) hS rfl rfl rfl rfl ?_
  intro g11 w12 hS
  refine WL.assign rfl rfl ?_
  refine WL.assign rfl rfl ?_
  refine WL.done ?_
  refine W.seq ?_
  refine W.seq ?_
  refine W.region ?_
  refine WL.loadV (cs := [.int .i64 Pf, .int .i64 Mf, .slice Af mf.length kf]) Try.el24 Try.agg24 rfl rfl (Own.vcells (hS.own (i := 0) rfl)) rfl ?_
  refine SL.call hS (ok_check (hS.ro hf) hv) Try.func59 rfl Try.nm59 rfl rfl ?_
  rintro _ _ w13 ⟨r14, rfl, rfl, hv⟩ hGw13 hS
  change St _ _ _ _ [.row 24 3 (some ⟨g11, 0, none⟩) 1 1 [.int .i64 Pf, .int .i64 Mf, .slice Af mf.length kf]] at hS
  refine WL.assign rfl rfl ?_
  refine WL.done ?_
  refine W.seq ?_
  refine W.region ?_
  refine WL.move rfl rfl ?_
  refine WL.neqD rfl rfl rfl ?_
  refine WL.done ?_
  refine W.cond2 rfl (fun c15 => ?_) (fun c15 => ?_)
  · have hv := hv.1 (of_decide_eq_true c15)
    refine W.seq ?_
    refine W.region ?_
    refine WL.move rfl rfl ?_
    refine WL.assign rfl rfl ?_
    refine WL.assign rfl rfl ?_
    refine WL.done ?_
    refine W.ret ?_
    refine ⟨_, rfl, Fin.nil ?_⟩
    exact ⟨_, hS.ext, (hS.pick [] rfl).rows, News.of (hS.pick [] rfl).rows rfl, ⟨none, r14, hv, rfl, rfl⟩⟩
  · have hv := hv.2 (of_decide_eq_false c15)
    refine W.skip ?_
    refine W.seq ?_
    obtain ⟨J24, hv, hk111⟩ := hv
    refine W.cutN (σ := Int × Int × List Int × Int × Nat × Option Addr × Nat) (fun q w1 => match q with | (z17, z18, x19, z23, g16, A20, k21) => J24 z17 z18 x19 z23 ∧ St TT w none w1 [.row 3 1 A20 x19.length k21 (is x19), .row 69 7 (some ⟨g16, 0, none⟩) 1 1 [.int .i64 z17, .int .i64 z18, .slice A20 x19.length k21, .int .i64 z23, .slice none 0 0, .slice none 0 0, .slice none 0 0], .row 24 3 (some ⟨g11, 0, none⟩) 1 1 [.int .i64 Pf, .int .i64 Mf, .slice Af mf.length kf]]) (fun q => match q with | (z17, z18, x19, z23, g16, A20, k21) => [(1, .pointer (some ⟨g11, 0, none⟩)), (2, .pointer Option.none), (3, .int .i64 (0 : Int)), (5, .pointer (some ⟨g16, 0, none⟩))]) ?_ ?_
    · refine W.drawA Try.mixed ?_
      intro w25 hGw25 _
      have hS := hS.grow hGw25
      refine WA.step [0, 2] (by decide +kernel) rfl ?_
      intro iQ hQ
      simp only [List.mem_cons, List.not_mem_nil, or_false] at hQ
      rcases hQ with rfl | rfl
      · refine ⟨_, rfl, ?_⟩
        refine WL.loadV (cs := [.int .i64 Pf, .int .i64 Mf, .slice Af mf.length kf]) Try.el24 Try.agg24 rfl rfl (Own.vcells (hS.own (i := 0) rfl)) rfl ?_
        refine WL.done ?_
        refine WA.step [1, 2] (by decide +kernel) rfl ?_
        intro iQ hQ
        simp only [List.mem_cons, List.not_mem_nil, or_false] at hQ
        rcases hQ with rfl | rfl
        · refine ⟨_, rfl, ?_⟩
          refine SL.call hS (ok_cloneF (hS.ro hf) hv) Try.func60 rfl Try.nm60 rfl rfl ?_
          rintro _ _ w26 ⟨r27, r28, x29, A30, k31, rfl, rfl, hv⟩ hGw26 hS
          change St _ _ _ _ [.row 3 1 A30 x29.length k31 (is x29), .row 24 3 (some ⟨g11, 0, none⟩) 1 1 [.int .i64 Pf, .int .i64 Mf, .slice Af mf.length kf]] at hS
          refine WL.done ?_
          refine WA.step [2] (by decide +kernel) rfl ?_
          intro iQ hQ
          simp only [List.mem_cons, List.not_mem_nil, or_false] at hQ
          obtain rfl := hQ
          refine ⟨_, rfl, ?_⟩
          refine WL.loadV (cs := [.int .i64 Pf, .int .i64 Mf, .slice Af mf.length kf]) Try.el24 Try.agg24 rfl rfl (Own.vcells (hS.own (i := 1) rfl)) rfl ?_
          refine WL.done ?_
          refine WA.step [3] (by decide +kernel) rfl ?_
          intro iQ hQ
          simp only [List.mem_cons, List.not_mem_nil, or_false] at hQ
          obtain rfl := hQ
          refine ⟨_, rfl, ?_⟩
          refine SL.call hS (ok_order (hS.ro hf) hv) Try.func61 rfl Try.nm61 rfl rfl ?_
          rintro _ _ w33 ⟨r34, rfl, rfl, hv⟩ hGw33 hS
          change St _ _ _ _ [.row 3 1 A30 x29.length k31 (is x29), .row 24 3 (some ⟨g11, 0, none⟩) 1 1 [.int .i64 Pf, .int .i64 Mf, .slice Af mf.length kf]] at hS
          refine WL.done ?_
          refine WA.step [4] (by decide +kernel) rfl ?_
          intro iQ hQ
          simp only [List.mem_cons, List.not_mem_nil, or_false] at hQ
          obtain rfl := hQ
          refine ⟨_, rfl, ?_⟩
          refine WL.build (cells := #[.int .i64 r27, .int .i64 r28, .slice A30 x29.length k31, .int .i64 r34, .slice none 0 0, .slice none 0 0, .slice none 0 0]) Try.bld69 rfl rfl rfl ?_
          refine WL.done ?_
          refine WA.step [5] (by decide +kernel) rfl ?_
          intro iQ hQ
          simp only [List.mem_cons, List.not_mem_nil, or_false] at hQ
          obtain rfl := hQ
          refine ⟨_, rfl, ?_⟩
          refine SL.box (z := 7) (cs := [.int .i64 r27, .int .i64 r28, .slice A30 x29.length k31, .int .i64 r34, .slice none 0 0, .slice none 0 0, .slice none 0 0]) hS rfl rfl rfl rfl ?_
          intro g35 w36 hS
          refine WL.done ?_
          refine WA.step [6] (by decide +kernel) rfl ?_
          intro iQ hQ
          simp only [List.mem_cons, List.not_mem_nil, or_false] at hQ
          obtain rfl := hQ
          refine ⟨_, rfl, ?_⟩
          refine WL.assign rfl rfl ?_
          refine WL.done ?_
          refine WA.done (by decide +kernel) ?_
          have hS := hS.pick [1, 0, 2] rfl
          change St _ _ _ _ [.row 3 1 A30 x29.length k31 (is x29), .row 69 7 (some ⟨g35, 0, none⟩) 1 1 [.int .i64 r27, .int .i64 r28, .slice A30 x29.length k31, .int .i64 r34, .slice none 0 0, .slice none 0 0, .slice none 0 0], .row 24 3 (some ⟨g11, 0, none⟩) 1 1 [.int .i64 Pf, .int .i64 Mf, .slice Af mf.length kf]] at hS
          exact ⟨(r27, r28, x29, r34, g35, A30, k31), ⟨rfl, rfl, rfl, rfl, trivial⟩, rfl, hv, hS⟩
        · refine ⟨_, rfl, ?_⟩
          refine WL.loadV (cs := [.int .i64 Pf, .int .i64 Mf, .slice Af mf.length kf]) Try.el24 Try.agg24 rfl rfl (Own.vcells (hS.own (i := 0) rfl)) rfl ?_
          refine WL.done ?_
          refine WA.step [1] (by decide +kernel) rfl ?_
          intro iQ hQ
          simp only [List.mem_cons, List.not_mem_nil, or_false] at hQ
          obtain rfl := hQ
          refine ⟨_, rfl, ?_⟩
          refine SL.call hS (ok_cloneF (hS.ro hf) hv) Try.func60 rfl Try.nm60 rfl rfl ?_
          rintro _ _ w26 ⟨r27, r28, x29, A30, k31, rfl, rfl, hv⟩ hGw26 hS
          change St _ _ _ _ [.row 3 1 A30 x29.length k31 (is x29), .row 24 3 (some ⟨g11, 0, none⟩) 1 1 [.int .i64 Pf, .int .i64 Mf, .slice Af mf.length kf]] at hS
          refine WL.done ?_
          refine WA.step [3] (by decide +kernel) rfl ?_
          intro iQ hQ
          simp only [List.mem_cons, List.not_mem_nil, or_false] at hQ
          obtain rfl := hQ
          refine ⟨_, rfl, ?_⟩
          refine SL.call hS (ok_order (hS.ro hf) hv) Try.func61 rfl Try.nm61 rfl rfl ?_
          rintro _ _ w33 ⟨r34, rfl, rfl, hv⟩ hGw33 hS
          change St _ _ _ _ [.row 3 1 A30 x29.length k31 (is x29), .row 24 3 (some ⟨g11, 0, none⟩) 1 1 [.int .i64 Pf, .int .i64 Mf, .slice Af mf.length kf]] at hS
          refine WL.done ?_
          refine WA.step [4] (by decide +kernel) rfl ?_
          intro iQ hQ
          simp only [List.mem_cons, List.not_mem_nil, or_false] at hQ
          obtain rfl := hQ
          refine ⟨_, rfl, ?_⟩
          refine WL.build (cells := #[.int .i64 r27, .int .i64 r28, .slice A30 x29.length k31, .int .i64 r34, .slice none 0 0, .slice none 0 0, .slice none 0 0]) Try.bld69 rfl rfl rfl ?_
          refine WL.done ?_
          refine WA.step [5] (by decide +kernel) rfl ?_
          intro iQ hQ
          simp only [List.mem_cons, List.not_mem_nil, or_false] at hQ
          obtain rfl := hQ
          refine ⟨_, rfl, ?_⟩
          refine SL.box (z := 7) (cs := [.int .i64 r27, .int .i64 r28, .slice A30 x29.length k31, .int .i64 r34, .slice none 0 0, .slice none 0 0, .slice none 0 0]) hS rfl rfl rfl rfl ?_
          intro g35 w36 hS
          refine WL.done ?_
          refine WA.step [6] (by decide +kernel) rfl ?_
          intro iQ hQ
          simp only [List.mem_cons, List.not_mem_nil, or_false] at hQ
          obtain rfl := hQ
          refine ⟨_, rfl, ?_⟩
          refine WL.assign rfl rfl ?_
          refine WL.done ?_
          refine WA.done (by decide +kernel) ?_
          have hS := hS.pick [1, 0, 2] rfl
          change St _ _ _ _ [.row 3 1 A30 x29.length k31 (is x29), .row 69 7 (some ⟨g35, 0, none⟩) 1 1 [.int .i64 r27, .int .i64 r28, .slice A30 x29.length k31, .int .i64 r34, .slice none 0 0, .slice none 0 0, .slice none 0 0], .row 24 3 (some ⟨g11, 0, none⟩) 1 1 [.int .i64 Pf, .int .i64 Mf, .slice Af mf.length kf]] at hS
          exact ⟨(r27, r28, x29, r34, g35, A30, k31), ⟨rfl, rfl, rfl, rfl, trivial⟩, rfl, hv, hS⟩
      · refine ⟨_, rfl, ?_⟩
        refine WL.loadV (cs := [.int .i64 Pf, .int .i64 Mf, .slice Af mf.length kf]) Try.el24 Try.agg24 rfl rfl (Own.vcells (hS.own (i := 0) rfl)) rfl ?_
        refine WL.done ?_
        refine WA.step [0] (by decide +kernel) rfl ?_
        intro iQ hQ
        simp only [List.mem_cons, List.not_mem_nil, or_false] at hQ
        obtain rfl := hQ
        refine ⟨_, rfl, ?_⟩
        refine WL.loadV (cs := [.int .i64 Pf, .int .i64 Mf, .slice Af mf.length kf]) Try.el24 Try.agg24 rfl rfl (Own.vcells (hS.own (i := 0) rfl)) rfl ?_
        refine WL.done ?_
        refine WA.step [1] (by decide +kernel) rfl ?_
        intro iQ hQ
        simp only [List.mem_cons, List.not_mem_nil, or_false] at hQ
        obtain rfl := hQ
        refine ⟨_, rfl, ?_⟩
        refine SL.call hS (ok_cloneF (hS.ro hf) hv) Try.func60 rfl Try.nm60 rfl rfl ?_
        rintro _ _ w26 ⟨r27, r28, x29, A30, k31, rfl, rfl, hv⟩ hGw26 hS
        change St _ _ _ _ [.row 3 1 A30 x29.length k31 (is x29), .row 24 3 (some ⟨g11, 0, none⟩) 1 1 [.int .i64 Pf, .int .i64 Mf, .slice Af mf.length kf]] at hS
        refine WL.done ?_
        refine WA.step [3] (by decide +kernel) rfl ?_
        intro iQ hQ
        simp only [List.mem_cons, List.not_mem_nil, or_false] at hQ
        obtain rfl := hQ
        refine ⟨_, rfl, ?_⟩
        refine SL.call hS (ok_order (hS.ro hf) hv) Try.func61 rfl Try.nm61 rfl rfl ?_
        rintro _ _ w33 ⟨r34, rfl, rfl, hv⟩ hGw33 hS
        change St _ _ _ _ [.row 3 1 A30 x29.length k31 (is x29), .row 24 3 (some ⟨g11, 0, none⟩) 1 1 [.int .i64 Pf, .int .i64 Mf, .slice Af mf.length kf]] at hS
        refine WL.done ?_
        refine WA.step [4] (by decide +kernel) rfl ?_
        intro iQ hQ
        simp only [List.mem_cons, List.not_mem_nil, or_false] at hQ
        obtain rfl := hQ
        refine ⟨_, rfl, ?_⟩
        refine WL.build (cells := #[.int .i64 r27, .int .i64 r28, .slice A30 x29.length k31, .int .i64 r34, .slice none 0 0, .slice none 0 0, .slice none 0 0]) Try.bld69 rfl rfl rfl ?_
        refine WL.done ?_
        refine WA.step [5] (by decide +kernel) rfl ?_
        intro iQ hQ
        simp only [List.mem_cons, List.not_mem_nil, or_false] at hQ
        obtain rfl := hQ
        refine ⟨_, rfl, ?_⟩
        refine SL.box (z := 7) (cs := [.int .i64 r27, .int .i64 r28, .slice A30 x29.length k31, .int .i64 r34, .slice none 0 0, .slice none 0 0, .slice none 0 0]) hS rfl rfl rfl rfl ?_
        intro g35 w36 hS
        refine WL.done ?_
        refine WA.step [6] (by decide +kernel) rfl ?_
        intro iQ hQ
        simp only [List.mem_cons, List.not_mem_nil, or_false] at hQ
        obtain rfl := hQ
        refine ⟨_, rfl, ?_⟩
        refine WL.assign rfl rfl ?_
        refine WL.done ?_
        refine WA.done (by decide +kernel) ?_
        have hS := hS.pick [1, 0, 2] rfl
        change St _ _ _ _ [.row 3 1 A30 x29.length k31 (is x29), .row 69 7 (some ⟨g35, 0, none⟩) 1 1 [.int .i64 r27, .int .i64 r28, .slice A30 x29.length k31, .int .i64 r34, .slice none 0 0, .slice none 0 0, .slice none 0 0], .row 24 3 (some ⟨g11, 0, none⟩) 1 1 [.int .i64 Pf, .int .i64 Mf, .slice Af mf.length kf]] at hS
        exact ⟨(r27, r28, x29, r34, g35, A30, k31), ⟨rfl, rfl, rfl, rfl, trivial⟩, rfl, hv, hS⟩
    · rintro ⟨z17, z18, x19, z23, g16, A20, k21⟩ w37 ⟨hv, hS⟩
      have hv := hk111 z17 z18 x19 z23 hv
      refine W.seq ?_
      refine W.region ?_
      refine WL.move rfl rfl ?_
      refine SL.call hS (ok_units ⟨_, _, _, _, _, _, _, _, (hS.rd (i := 1) rfl), (hS.rd (i := 0) rfl), (Rd.nil (by simp only [maxLen]; omega)), (Rd.nil (by simp only [maxLen]; omega)), (Rd.nil (by simp only [maxLen]; omega))⟩ hv) Try.func62 rfl Try.nm62 rfl rfl ?_
      rintro _ _ w38 ⟨x39, A40, k41, rfl, rfl, hv⟩ hGw38 hS
      change St _ _ _ _ [.row 3 1 A40 x39.length k41 (is x39), .row 3 1 A20 x19.length k21 (is x19), .row 69 7 (some ⟨g16, 0, none⟩) 1 1 [.int .i64 z17, .int .i64 z18, .slice A20 x19.length k21, .int .i64 z23, .slice none 0 0, .slice none 0 0, .slice none 0 0], .row 24 3 (some ⟨g11, 0, none⟩) 1 1 [.int .i64 Pf, .int .i64 Mf, .slice Af mf.length kf]] at hS
      refine WL.assign rfl rfl ?_
      refine WL.done ?_
      refine W.seq ?_
      refine W.region ?_
      refine WL.move rfl rfl ?_
      refine WL.move rfl rfl ?_
      refine WL.move rfl rfl ?_
      obtain ⟨o43, hv⟩ := hv
      refine SL.appendRo (cs := is x39) (cs' := is x39) 0 ((x39 ++ x39).length) (is (x39 ++ x39)) hS rfl Try.underlying22 Try.el3 (hS.rd (i := 0) rfl) (is_one _) rfl rfl ⟨o43.1, o43.2.1⟩ (apk o43.2.2).1 (apk o43.2.2).2 (is_ap (hS.rd (i := 0) rfl) (hS.rd (i := 0) rfl)) (is_append _ _) rfl ?_
      intro A44 k45 w46 hS hb48
      have hb48 : ∀ g, bl A44 = some g → w.heap.size ≤ g := fun g hg => (hb48 g hg).resolve_right (by simp)
      refine WL.nilCheck rfl rfl ?_
      refine WL.fieldA (off := 4) Try.fla69_2 rfl rfl ?_
      refine SL.store (cs' := [.int .i64 z17, .int .i64 z18, .slice A20 x19.length k21, .int .i64 z23, .slice A44 ((x39 ++ x39).length) k45, .slice none 0 0, .slice none 0 0]) 3 4 hS rfl Try.el22 rfl rfl rfl (of_ble rfl) rfl ?_
      intro w49 hS
      refine WL.done ?_
      refine W.seq ?_
      refine W.region ?_
      refine WL.move rfl rfl ?_
      refine WL.move rfl rfl ?_
      refine WL.nilCheck rfl rfl ?_
      refine WL.fieldA (off := 3) Try.fla69_1 rfl rfl ?_
      refine WL.load Try.underlying3 rfl rfl (Own.vcells (hS.own (i := 3) rfl) 3 _ rfl) rfl ?_
      obtain ⟨o50, hv⟩ := hv
      refine SL.make (J := z23) hS Try.underlying22 Try.el3 rfl rfl o50 (made_is _) rfl ?_
      intro A51 w52 hS
      refine WL.nilCheck rfl rfl ?_
      refine WL.fieldA (off := 5) Try.fla69_3 rfl rfl ?_
      refine SL.store (cs' := [.int .i64 z17, .int .i64 z18, .slice A20 x19.length k21, .int .i64 z23, .slice A44 ((x39 ++ x39).length) k45, .slice A51 z23.toNat z23.toNat, .slice none 0 0]) 4 5 hS rfl Try.el22 rfl rfl rfl (of_ble rfl) rfl ?_
      intro w54 hS
      refine WL.done ?_
      refine W.seq ?_
      refine W.region ?_
      refine WL.move rfl rfl ?_
      refine WL.nilCheck rfl rfl ?_
      refine WL.fieldA (off := 5) Try.fla69_3 rfl rfl ?_
      refine WL.load Try.underlying22 rfl rfl (Own.vcells (hS.own (i := 4) rfl) 5 _ rfl) rfl ?_
      obtain ⟨o55, hv⟩ := hv
      refine SL.index Try.underlying22 Try.el3 (hS.rd (i := 0) rfl) rfl rfl o55 rfl ?_
      refine SL.store (cs' := is (si (List.replicate z23.toNat (0 : Int)) (0 : Int) (-1 : Int))) 0 (0 : Int).toNat hS rfl Try.el3 rfl rfl rfl (is_lt (hS.rd (i := 0) rfl) o55) (is_set _ _ _) ?_
      intro w56 hS
      refine WL.done ?_
      refine W.seq ?_
      refine W.seq ?_
      refine W.region ?_
      refine WL.move rfl rfl ?_
      refine WL.len Try.underlying22 rfl rfl ?_
      refine WL.move rfl rfl ?_
      refine WL.done ?_
      refine W.block ?_
      obtain ⟨I63, μ64, hv, hk110⟩ := hv
      change St _ _ _ _ [.row 3 1 A51 z23.toNat z23.toNat (is (si (List.replicate z23.toNat (0 : Int)) (0 : Int) (-1 : Int))), .ro 1 A44 ((x39 ++ x39).length) k45 (is (x39 ++ x39)), .ro 1 A40 x39.length k41 (is x39), .row 3 1 A20 x19.length k21 (is x19), .row 69 7 (some ⟨g16, 0, none⟩) 1 1 [.int .i64 z17, .int .i64 z18, .slice A20 x19.length k21, .int .i64 z23, .slice A44 ((x39 ++ x39).length) k45, .slice A51 z23.toNat z23.toNat, .slice none 0 0], .row 24 3 (some ⟨g11, 0, none⟩) 1 1 [.int .i64 Pf, .int .i64 Mf, .slice Af mf.length kf]] at hS
      refine W.loop (σ := List Int × Int) (fun q w1 => match q with | (x61, z62) => I63 x61 z62 ∧ St TT w none w1 [.row 3 1 A51 z23.toNat z23.toNat (is x61), .ro 1 A44 ((x39 ++ x39).length) k45 (is (x39 ++ x39)), .ro 1 A40 x39.length k41 (is x39), .row 3 1 A20 x19.length k21 (is x19), .row 69 7 (some ⟨g16, 0, none⟩) 1 1 [.int .i64 z17, .int .i64 z18, .slice A20 x19.length k21, .int .i64 z23, .slice A44 ((x39 ++ x39).length) k45, .slice A51 z23.toNat z23.toNat, .slice none 0 0], .row 24 3 (some ⟨g11, 0, none⟩) 1 1 [.int .i64 Pf, .int .i64 Mf, .slice Af mf.length kf]]) (fun q => match q with | (x61, z62) => [(1, .pointer (some ⟨g11, 0, none⟩)), (2, .pointer Option.none), (3, .int .i64 (0 : Int)), (5, .pointer (some ⟨g16, 0, none⟩)), (6, .slice A40 x39.length k41), (43, .slice A40 x39.length k41), (44, .int .i64 ((x39.length : Nat) : Int)), (45, .int .i64 z62)]) (fun q => match q with | (x61, z62) => μ64 x61 z62) (si (List.replicate z23.toNat (0 : Int)) (0 : Int) (-1 : Int), (0 : Int)) ⟨hv, hS⟩ ⟨rfl, rfl, rfl, rfl, rfl, rfl, rfl, rfl, trivial⟩ ?_
      rintro ⟨x61, z62⟩ w65 ⟨hv, hS⟩
      have hv := hk110 x61 z62 hv
      refine W.seq ?_
      refine W.region ?_
      refine WL.lssD rfl rfl rfl ?_
      refine WL.done ?_
      refine W.seq ?_
      refine W.cond2 rfl (fun c66 => ?_) (fun c66 => ?_)
      · have hv := hv.1 (of_decide_eq_true c66)
        refine W.skip ?_
        refine W.seq ?_
        refine W.block ?_
        refine W.seq ?_
        refine W.region ?_
        refine WL.move rfl rfl ?_
        obtain ⟨o67, hv⟩ := hv
        refine SL.index Try.underlying22 Try.el3 (hS.rop (i := 2) rfl) rfl rfl o67 rfl ?_
        refine WL.load Try.underlying3 rfl rfl (Rd.gi (hS.rop (i := 2) rfl) o67) rfl ?_
        refine WL.assign rfl rfl ?_
        refine WL.assign rfl rfl ?_
        refine WL.done ?_
        refine W.region ?_
        refine WL.move rfl rfl ?_
        refine WL.nilCheck rfl rfl ?_
        refine WL.fieldA (off := 5) Try.fla69_3 rfl rfl ?_
        refine WL.load Try.underlying22 rfl rfl (Own.vcells (hS.own (i := 4) rfl) 5 _ rfl) rfl ?_
        refine WL.move rfl rfl ?_
        refine WL.move rfl rfl ?_
        obtain ⟨o68, hv⟩ := hv
        refine SL.index Try.underlying22 Try.el3 (hS.rd (i := 0) rfl) rfl rfl o68 rfl ?_
        refine SL.store (cs' := is (si x61 (gi x39 z62) z62)) 0 (gi x39 z62).toNat hS rfl Try.el3 rfl rfl rfl (is_lt (hS.rd (i := 0) rfl) o68) (is_set _ _ _) ?_
        intro w69 hS
        refine WL.done ?_
        refine W.region ?_
        obtain ⟨o70, hv⟩ := hv
        refine WL.add (r := (z62 + (1 : Int))) rfl rfl (wr o70) rfl ?_
        refine WL.move rfl rfl ?_
        refine WL.done ?_
        change St _ _ _ _ [.row 3 1 A51 z23.toNat z23.toNat (is (si x61 (gi x39 z62) z62)), .ro 1 A44 ((x39 ++ x39).length) k45 (is (x39 ++ x39)), .ro 1 A40 x39.length k41 (is x39), .row 3 1 A20 x19.length k21 (is x19), .row 69 7 (some ⟨g16, 0, none⟩) 1 1 [.int .i64 z17, .int .i64 z18, .slice A20 x19.length k21, .int .i64 z23, .slice A44 ((x39 ++ x39).length) k45, .slice A51 z23.toNat z23.toNat, .slice none 0 0], .row 24 3 (some ⟨g11, 0, none⟩) 1 1 [.int .i64 Pf, .int .i64 Mf, .slice Af mf.length kf]] at hS
        exact ⟨(si x61 (gi x39 z62) z62, (z62 + (1 : Int))), ⟨rfl, rfl, rfl, rfl, rfl, rfl, rfl, rfl, trivial⟩, hv.2, rfl, hv.1, hS⟩
      · have hv := hv.2 (of_decide_eq_false c66)
        refine W.exit ?_
        refine W.seq ?_
        refine W.region ?_
        refine WL.move rfl rfl ?_
        refine WL.move rfl rfl ?_
        refine WL.len Try.underlying22 rfl rfl ?_
        obtain ⟨o71, hv⟩ := hv
        refine SL.make (J := ((x39.length : Nat) : Int)) hS Try.underlying22 Try.el3 rfl rfl o71 (made_is _) rfl ?_
        intro A72 w73 hS
        refine WL.nilCheck rfl rfl ?_
        refine WL.fieldA (off := 6) Try.fla69_4 rfl rfl ?_
        refine SL.store (cs' := [.int .i64 z17, .int .i64 z18, .slice A20 x19.length k21, .int .i64 z23, .slice A44 ((x39 ++ x39).length) k45, .slice A51 z23.toNat z23.toNat, .slice A72 (((x39.length : Nat) : Int).toNat) (((x39.length : Nat) : Int).toNat)]) 5 6 hS rfl Try.el22 rfl rfl rfl (of_ble rfl) rfl ?_
        intro w75 hS
        refine WL.done ?_
        refine W.seq ?_
        refine W.seq ?_
        refine W.region ?_
        refine WL.move rfl rfl ?_
        refine WL.len Try.underlying22 rfl rfl ?_
        refine WL.move rfl rfl ?_
        refine WL.done ?_
        refine W.block ?_
        obtain ⟨I82, μ83, hv, hk109⟩ := hv
        change St _ _ _ _ [.row 3 1 A72 (((x39.length : Nat) : Int).toNat) (((x39.length : Nat) : Int).toNat) (is (List.replicate ((x39.length : Nat) : Int).toNat (0 : Int))), .row 3 1 A51 z23.toNat z23.toNat (is x61), .ro 1 A44 ((x39 ++ x39).length) k45 (is (x39 ++ x39)), .ro 1 A40 x39.length k41 (is x39), .row 3 1 A20 x19.length k21 (is x19), .row 69 7 (some ⟨g16, 0, none⟩) 1 1 [.int .i64 z17, .int .i64 z18, .slice A20 x19.length k21, .int .i64 z23, .slice A44 ((x39 ++ x39).length) k45, .slice A51 z23.toNat z23.toNat, .slice A72 (((x39.length : Nat) : Int).toNat) (((x39.length : Nat) : Int).toNat)], .row 24 3 (some ⟨g11, 0, none⟩) 1 1 [.int .i64 Pf, .int .i64 Mf, .slice Af mf.length kf]] at hS
        refine W.loop (σ := List Int × Int) (fun q w1 => match q with | (x80, z81) => I82 x80 z81 ∧ St TT w none w1 [.row 3 1 A72 (((x39.length : Nat) : Int).toNat) (((x39.length : Nat) : Int).toNat) (is x80), .row 3 1 A51 z23.toNat z23.toNat (is x61), .ro 1 A44 ((x39 ++ x39).length) k45 (is (x39 ++ x39)), .ro 1 A40 x39.length k41 (is x39), .row 3 1 A20 x19.length k21 (is x19), .row 69 7 (some ⟨g16, 0, none⟩) 1 1 [.int .i64 z17, .int .i64 z18, .slice A20 x19.length k21, .int .i64 z23, .slice A44 ((x39 ++ x39).length) k45, .slice A51 z23.toNat z23.toNat, .slice A72 (((x39.length : Nat) : Int).toNat) (((x39.length : Nat) : Int).toNat)], .row 24 3 (some ⟨g11, 0, none⟩) 1 1 [.int .i64 Pf, .int .i64 Mf, .slice Af mf.length kf]]) (fun q => match q with | (x80, z81) => [(1, .pointer (some ⟨g11, 0, none⟩)), (2, .pointer Option.none), (3, .int .i64 (0 : Int)), (5, .pointer (some ⟨g16, 0, none⟩)), (64, .slice A40 x39.length k41), (65, .int .i64 ((x39.length : Nat) : Int)), (66, .int .i64 z81)]) (fun q => match q with | (x80, z81) => μ83 x80 z81) (List.replicate ((x39.length : Nat) : Int).toNat (0 : Int), (0 : Int)) ⟨hv, hS⟩ ⟨rfl, rfl, rfl, rfl, rfl, rfl, rfl, trivial⟩ ?_
        rintro ⟨x80, z81⟩ w84 ⟨hv, hS⟩
        have hv := hk109 x80 z81 hv
        refine W.seq ?_
        refine W.region ?_
        refine WL.lssD rfl rfl rfl ?_
        refine WL.done ?_
        refine W.seq ?_
        refine W.cond2 rfl (fun c85 => ?_) (fun c85 => ?_)
        · have hv := hv.1 (of_decide_eq_true c85)
          refine W.skip ?_
          refine W.seq ?_
          refine W.block ?_
          refine W.seq ?_
          refine W.region ?_
          refine WL.move rfl rfl ?_
          obtain ⟨o86, hv⟩ := hv
          refine SL.index Try.underlying22 Try.el3 (hS.rop (i := 3) rfl) rfl rfl o86 rfl ?_
          refine WL.load Try.underlying3 rfl rfl (Rd.gi (hS.rop (i := 3) rfl) o86) rfl ?_
          refine WL.assign rfl rfl ?_
          refine WL.assign rfl rfl ?_
          refine WL.done ?_
          obtain ⟨r99, o101, hv⟩ := hv
          obtain ⟨o103, hv⟩ := hv
          have hS0 := hS
          refine W.drawX 14 (fun _ => false) (fun _ => none) [⟨[], [5], true⟩, ⟨[0], [], true⟩, ⟨[1], [], true⟩, ⟨[2], [], false⟩, ⟨[], [9], true⟩, ⟨[], [5], true⟩, ⟨[5], [], true⟩, ⟨[6], [], true⟩, ⟨[7], [], false⟩, ⟨[], [1], false⟩, ⟨[], [10], true⟩, ⟨[9, 10], [], false⟩, ⟨[8, 11], [], true⟩, ⟨[12], [], false⟩] [[(5, .pointer (some ⟨g16, 0, none⟩))], [], [], [], [(9, .int .i64 z81)], [(5, .pointer (some ⟨g16, 0, none⟩))], [], [], [], [(1, .pointer (some ⟨g11, 0, none⟩))], [(10, .int .i64 (gi x39 z81))], [], [], []] (fun iQ => [fun v _ => v = .pointer (some ⟨g16, 0, none⟩), fun v _ => v = .pointer (some ⟨g16, 0, none⟩), fun v _ => v = .pointer (some ((⟨g16, 0, none⟩ : Addr).add 6)), fun v _ => v = .slice A72 (((x39.length : Nat) : Int).toNat) (((x39.length : Nat) : Int).toNat), fun v _ => v = .int .i64 z81, fun v _ => v = .pointer (some ⟨g16, 0, none⟩), fun v _ => v = .pointer (some ⟨g16, 0, none⟩), fun v _ => v = .pointer (some ((⟨g16, 0, none⟩ : Addr).add 5)), fun v _ => v = .slice A51 z23.toNat z23.toNat, fun v _ => v = .agg #[.int .i64 Pf, .int .i64 Mf, .slice Af mf.length kf], fun v _ => v = .int .i64 (gi x39 z81), fun v _ => v = .int .i64 r99, fun v _ => v = .pointer (some ((adOf A51).add r99.toNat)), fun v _ => v = .int .i64 (gi x61 r99)].getD iQ (fun _ _ => True)) Try.mixed (by kernel_rfl) ?_ (by kernel_rfl) ?_ ?_
          · refine Vs_monoT _ ?_
            intro VQ hVQ vQ wQ1 wQ2 hQ1 hQ2
            simp only [List.mem_cons, List.not_mem_nil, or_false] at hVQ
            rcases hVQ with rfl | rfl | rfl | rfl | rfl | rfl | rfl | rfl | rfl | rfl | rfl | rfl | rfl | rfl
            · exact hQ1
            · exact hQ1
            · exact hQ1
            · exact hQ1
            · exact hQ1
            · exact hQ1
            · exact hQ1
            · exact hQ1
            · exact hQ1
            · exact hQ1
            · exact hQ1
            · exact hQ1
            · exact hQ1
            · exact hQ1
          · refine ⟨⟨rfl, ⟨rfl, trivial⟩, ?_⟩, ⟨rfl, trivial, ?_⟩, ⟨rfl, trivial, ?_⟩, ⟨rfl, trivial, ?_⟩, ⟨rfl, ⟨rfl, trivial⟩, ?_⟩, ⟨rfl, ⟨rfl, trivial⟩, ?_⟩, ⟨rfl, trivial, ?_⟩, ⟨rfl, trivial, ?_⟩, ⟨rfl, trivial, ?_⟩, ⟨rfl, ⟨rfl, trivial⟩, ?_⟩, ⟨rfl, ⟨rfl, trivial⟩, ?_⟩, ⟨rfl, trivial, ?_⟩, ⟨rfl, trivial, ?_⟩, ⟨rfl, trivial, ?_⟩, trivial⟩
            · intro w87 hE
              intro RR
              refine WL.move rfl rfl ?_
              exact WL.done ⟨_, rfl, rfl, rfl, (fun h => absurd h (by decide)), (fun j h => by cases h)⟩
            · intro w88 hE
              rintro _ rfl
              intro RR
              refine WL.nilCheck rfl rfl ?_
              exact WL.done ⟨_, rfl, rfl, rfl, (fun h => absurd h (by decide)), (fun j h => by cases h)⟩
            · intro w89 hE
              rintro _ rfl
              intro RR
              refine WL.fieldA (off := 6) Try.fla69_4 rfl rfl ?_
              exact WL.done ⟨_, rfl, rfl, rfl, (fun h => absurd h (by decide)), (fun j h => by cases h)⟩
            · intro w90 hE
              have hE := hE rfl
              have hS := hS.grow hE
              rintro _ rfl
              intro RR
              refine WL.load Try.underlying22 rfl rfl (Own.vcells (hS.own (i := 5) rfl) 6 _ rfl) rfl ?_
              exact WL.done ⟨_, rfl, ext_refl _, rfl, (fun h => absurd h (by decide)), (fun j h => by cases h)⟩
            · intro w91 hE
              intro RR
              refine WL.move rfl rfl ?_
              exact WL.done ⟨_, rfl, rfl, rfl, (fun h => absurd h (by decide)), (fun j h => by cases h)⟩
            · intro w92 hE
              intro RR
              refine WL.move rfl rfl ?_
              exact WL.done ⟨_, rfl, rfl, rfl, (fun h => absurd h (by decide)), (fun j h => by cases h)⟩
            · intro w93 hE
              rintro _ rfl
              intro RR
              refine WL.nilCheck rfl rfl ?_
              exact WL.done ⟨_, rfl, rfl, rfl, (fun h => absurd h (by decide)), (fun j h => by cases h)⟩
            · intro w94 hE
              rintro _ rfl
              intro RR
              refine WL.fieldA (off := 5) Try.fla69_3 rfl rfl ?_
              exact WL.done ⟨_, rfl, rfl, rfl, (fun h => absurd h (by decide)), (fun j h => by cases h)⟩
            · intro w95 hE
              have hE := hE rfl
              have hS := hS.grow hE
              rintro _ rfl
              intro RR
              refine WL.load Try.underlying22 rfl rfl (Own.vcells (hS.own (i := 5) rfl) 5 _ rfl) rfl ?_
              exact WL.done ⟨_, rfl, ext_refl _, rfl, (fun h => absurd h (by decide)), (fun j h => by cases h)⟩
            · intro w96 hE
              have hE := hE rfl
              have hS := hS.grow hE
              intro RR
              refine WL.loadV (cs := [.int .i64 Pf, .int .i64 Mf, .slice Af mf.length kf]) Try.el24 Try.agg24 rfl rfl (Own.vcells (hS.own (i := 6) rfl)) rfl ?_
              exact WL.done ⟨_, rfl, ext_refl _, rfl, (fun h => absurd h (by decide)), (fun j h => by cases h)⟩
            · intro w97 hE
              intro RR
              refine WL.move rfl rfl ?_
              exact WL.done ⟨_, rfl, rfl, rfl, (fun h => absurd h (by decide)), (fun j h => by cases h)⟩
            · intro w98 hE
              have hE := hE rfl
              have hS := hS.grow hE
              rintro _ rfl
              rintro _ rfl
              intro RR
              refine WL.call Try.func63 rfl Try.nm63 rfl rfl (calls_un (ok_successor (hS.ro hf) o101)) ?_
              rintro _ w100 ⟨_, hGw100, hRww100, hNww100, r99q, rfl, rfl, he⟩
              subst he
              exact WL.done ⟨_, rfl, hGw100, rfl, (fun h => absurd h (by decide)), (fun j h => by cases h)⟩
            · intro w102 hE
              rintro _ rfl
              rintro _ rfl
              intro RR
              refine SL.index Try.underlying22 Try.el3 (hS.rd (i := 1) rfl) rfl rfl o103 rfl ?_
              exact WL.done ⟨_, rfl, rfl, rfl, (fun h => absurd h (by decide)), (fun j h => by cases h)⟩
            · intro w104 hE
              have hE := hE rfl
              have hS := hS.grow hE
              rintro _ rfl
              intro RR
              refine WL.load Try.underlying3 rfl rfl (Rd.gi (hS.rd (i := 1) rfl) o103) rfl ?_
              exact WL.done ⟨_, rfl, ext_refl _, rfl, (fun h => absurd h (by decide)), (fun j h => by cases h)⟩
          · intro vals w105 hT hVs hAp hCp
            have hS := hS.grow hT
            have hv0 : vals 0 = _ := hVs 0 (by decide)
            have hv1 : vals 1 = _ := hVs 1 (by decide)
            have hv2 : vals 2 = _ := hVs 2 (by decide)
            have hv3 : vals 3 = _ := hVs 3 (by decide)
            have hv4 : vals 4 = _ := hVs 4 (by decide)
            have hv5 : vals 5 = _ := hVs 5 (by decide)
            have hv6 : vals 6 = _ := hVs 6 (by decide)
            have hv7 : vals 7 = _ := hVs 7 (by decide)
            have hv8 : vals 8 = _ := hVs 8 (by decide)
            have hv9 : vals 9 = _ := hVs 9 (by decide)
            have hv10 : vals 10 = _ := hVs 10 (by decide)
            have hv11 : vals 11 = _ := hVs 11 (by decide)
            have hv12 : vals 12 = _ := hVs 12 (by decide)
            have hv13 : vals 13 = _ := hVs 13 (by decide)
            rw [show (List.filterMap (fun i => Option.map (fun t => (t, vals i)) (dstAt _ i)) (List.range _)) = [(71, .pointer (some ⟨g16, 0, none⟩)), (72, .pointer (some ⟨g16, 0, none⟩)), (73, .pointer (some ((⟨g16, 0, none⟩ : Addr).add 6))), (74, .slice A72 (((x39.length : Nat) : Int).toNat) (((x39.length : Nat) : Int).toNat)), (75, .int .i64 z81), (76, .pointer (some ⟨g16, 0, none⟩)), (77, .pointer (some ⟨g16, 0, none⟩)), (78, .pointer (some ((⟨g16, 0, none⟩ : Addr).add 5))), (79, .slice A51 z23.toNat z23.toNat), (80, .agg #[.int .i64 Pf, .int .i64 Mf, .slice Af mf.length kf]), (81, .int .i64 (gi x39 z81)), (82, .int .i64 r99), (83, .pointer (some ((adOf A51).add r99.toNat))), (84, .int .i64 (gi x61 r99))] from by
              show [(71, vals 0), (72, vals 1), (73, vals 2), (74, vals 3), (75, vals 4), (76, vals 5), (77, vals 6), (78, vals 7), (79, vals 8), (80, vals 9), (81, vals 10), (82, vals 11), (83, vals 12), (84, vals 13)] = _
              rw [hv0, hv1, hv2, hv3, hv4, hv5, hv6, hv7, hv8, hv9, hv10, hv11, hv12, hv13]]
            refine WA.step [14] (by decide +kernel) rfl ?_
            intro iQ hQ
            simp only [List.mem_cons, List.not_mem_nil, or_false] at hQ
            obtain rfl := hQ
            refine ⟨_, rfl, ?_⟩
            obtain ⟨o106, hv⟩ := hv
            refine SL.index Try.underlying22 Try.el3 (hS.rd (i := 0) rfl) rfl rfl o106 rfl ?_
            refine WL.done ?_
            refine WA.step [15] (by decide +kernel) rfl ?_
            intro iQ hQ
            simp only [List.mem_cons, List.not_mem_nil, or_false] at hQ
            obtain rfl := hQ
            refine ⟨_, rfl, ?_⟩
            refine SL.store (cs' := is (si x80 z81 (gi x61 r99))) 0 z81.toNat hS rfl Try.el3 rfl rfl rfl (is_lt (hS.rd (i := 0) rfl) o106) (is_set _ _ _) ?_
            intro w107 hS
            refine WL.done ?_
            refine WA.done (by decide +kernel) ?_
            refine W.region ?_
            obtain ⟨o108, hv⟩ := hv
            refine WL.add (r := (z81 + (1 : Int))) rfl rfl (wr o108) rfl ?_
            refine WL.move rfl rfl ?_
            refine WL.done ?_
            change St _ _ _ _ [.row 3 1 A72 (((x39.length : Nat) : Int).toNat) (((x39.length : Nat) : Int).toNat) (is (si x80 z81 (gi x61 r99))), .row 3 1 A51 z23.toNat z23.toNat (is x61), .ro 1 A44 ((x39 ++ x39).length) k45 (is (x39 ++ x39)), .ro 1 A40 x39.length k41 (is x39), .row 3 1 A20 x19.length k21 (is x19), .row 69 7 (some ⟨g16, 0, none⟩) 1 1 [.int .i64 z17, .int .i64 z18, .slice A20 x19.length k21, .int .i64 z23, .slice A44 ((x39 ++ x39).length) k45, .slice A51 z23.toNat z23.toNat, .slice A72 (((x39.length : Nat) : Int).toNat) (((x39.length : Nat) : Int).toNat)], .row 24 3 (some ⟨g11, 0, none⟩) 1 1 [.int .i64 Pf, .int .i64 Mf, .slice Af mf.length kf]] at hS
            exact ⟨(si x80 z81 (gi x61 r99), (z81 + (1 : Int))), ⟨rfl, rfl, rfl, rfl, rfl, rfl, rfl, trivial⟩, hv.2, rfl, hv.1, hS⟩
        · have hv := hv.2 (of_decide_eq_false c85)
          refine W.exit ?_
          refine W.seq ?_
          refine W.region ?_
          refine WL.move rfl rfl ?_
          refine WL.assign rfl rfl ?_
          refine WL.assign rfl rfl ?_
          refine WL.done ?_
          refine W.ret ?_
          have hgx : GFX w.heap.size w84.heap.size w84 ⟨g16, 0, none⟩ (GFv.mk z17 z18 x19 z23 (x39 ++ x39) x61 x80) := gfx_mk (hS.rd (i := 5) rfl) (hS.base (i := 5) rfl _ rfl) ⟨(hS.rd (i := 4) rfl), hS.base (i := 4) rfl⟩ ⟨(hS.rop (i := 2) rfl), hb48⟩ ⟨(hS.rd (i := 1) rfl), hS.base (i := 1) rfl⟩ ⟨(hS.rd (i := 0) rfl), hS.base (i := 0) rfl⟩
          refine ⟨_, rfl, Fin.nil ?_⟩
          exact ⟨[.ch w.heap.size w84.heap.size (fun wz => GFX w.heap.size w84.heap.size wz ⟨g16, 0, none⟩ (GFv.mk z17 z18 x19 z23 (x39 ++ x39) x61 x80))], hS.ext, ⟨⟨hgx, Nat.le_refl _, Nat.le_refl _, GFX.steady, fun _ h => by cases h⟩, (fun _ h => by cases h), trivial⟩, ⟨fun g hg => hg.1, trivial⟩, ⟨some (GFv.mk z17 z18 x19 z23 (x39 ++ x39) x61 x80), (0 : Int), hv, _, _, _, rfl, rfl⟩⟩
end Go.Proofs.Ytlibahphimfmjaa
set_option linter.unusedSimpArgs false
set_option linter.unusedVariables false
namespace Go.Proofs.Ytlibahphimfmjaa
open Go.RowKit
def V_isUnit (Fg : GFv) (x : Int) (Q : Bool → Prop) : Prop :=
  (((0 : Int) < x) → (Q (decide (x < Fg.q)))) ∧ (¬ ((0 : Int) < x) → Q false)
theorem ok_isUnit {w : World} {Q : Bool → Prop} {Fg : GFv} {x : Int} {ag : Addr} {Bg : Nat} (hgg : GFR Bg w ag Fg) (hv : V_isUnit Fg x Q) :
    Calls Try.prog 47 #[.pointer (some ag), .int .i64 x] w fun e w' => ∃ v Qr, e = .returned v ∧ w.grownBy w' none ∧ Rows w.heap.size none w' Qr ∧ News w.heap.size Qr ∧ ∃ (r0 : Bool), v = .bool r0 ∧ Qr = [] ∧ Q r0 := by
  have hgg_ := hgg
  obtain ⟨Ag_mod, kg_mod, Ag_exp, kg_exp, Ag_log, kg_log, Ag_above, kg_above, hg_c, hg_mod, hg_exp, hg_log, hg_above⟩ := hgg_
  refine calls_swap ?_
  refine calls_of_W (vs := [.pointer (some ag), .int .i64 x]) [4] Try.func47 rfl rfl rfl rfl ?_
  have hS := St.start w
  unfold V_isUnit at hv
  refine W.seq ?_
  refine W.region ?_
  refine WL.assign rfl rfl ?_
  refine WL.done ?_
  refine W.seq ?_
  refine W.region ?_
  refine WL.move rfl rfl ?_
  refine WL.gtrD rfl rfl rfl ?_
  refine WL.move rfl rfl ?_
  by_cases g11 : (0 : Int) < x
  · have hv := hv.1 g11
    rw [decide_eq_true g11]
    refine WL.take rfl ?_
    refine WL.move rfl rfl ?_
    refine WL.take rfl ?_
    refine WL.move rfl rfl ?_
    refine WL.take rfl ?_
    refine WL.nilCheck rfl rfl ?_
    refine WL.take rfl ?_
    refine WL.fieldA (off := 3) Try.fla69_1 rfl rfl ?_
    refine WL.take rfl ?_
    refine WL.load Try.underlying3 rfl rfl (Rd.at_ (hS.ro hg_c) (j := 3) rfl) rfl ?_
    refine WL.take rfl ?_
    refine WL.lssD rfl rfl rfl ?_
    refine WL.pick rfl rfl rfl ?_
    refine WL.assign rfl rfl ?_
    refine WL.done ?_
    refine W.ret ?_
    refine ⟨_, rfl, Fin.nil ?_⟩
    exact ⟨_, hS.ext, (hS.pick [] rfl).rows, News.of (hS.pick [] rfl).rows rfl, ⟨(decide (x < Fg.q)), rfl, rfl, hv⟩⟩
  · have hv := hv.2 g11
    rw [decide_eq_false g11]
    refine WL.pass rfl rfl rfl ?_
    refine WL.pass rfl rfl rfl ?_
    refine WL.pass rfl rfl rfl ?_
    refine WL.pass rfl rfl rfl ?_
    refine WL.pass rfl rfl rfl ?_
    refine WL.pass rfl rfl rfl ?_
    refine WL.pick rfl rfl rfl ?_
    refine WL.assign rfl rfl ?_
    refine WL.done ?_
    refine W.ret ?_
    refine ⟨_, rfl, Fin.nil ?_⟩
    exact ⟨_, hS.ext, (hS.pick [] rfl).rows, News.of (hS.pick [] rfl).rows rfl, ⟨false, rfl, rfl, hv⟩⟩

end Go.Proofs.Ytlibahphimfmjaa
