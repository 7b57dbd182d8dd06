/- What only this law leans on. -/
import Derived.Test.YthjpminlkcklgaaTowerFrobeniusG9
set_option linter.unusedSimpArgs false
set_option linter.unusedVariables false
namespace Go.Proofs.Ythjpminlkcklgaa
open Go.RowKit
def V_TowerFrobenius (Pf : Int) (Mf : Int) (mf : List Int) (x : Int) (k : Int) (Q : Bool → Prop) : Prop :=
  V_alive  (fun r14 => (((!r14) = true) → Q false) ∧ ((!r14) = false → (V_made Pf Mf mf (fun q => match q with | none => Q true | some F19 => (Mf ≠ 0) ∧ ((I64 ((k.tmod Mf) + Mf)) ∧ ((Mf ≠ 0) ∧ (∃ (r44 : Int), V_frob F19 x k (fun q => q = r44) ∧ (∃ (r51 : Int), V_rfrob Pf Mf mf x (((k.tmod Mf) + Mf).tmod Mf) (fun q => q = r51) ∧ (Q (decide (r44 = r51)))))))))))
theorem ok_TowerFrobenius {w : World} {Q : Bool → Prop} {Pf : Int} {Mf : Int} {mf : List Int} {x : Int} {k : Int} {Bf : Nat} {Af : Option Addr} {nf kf : Nat} (hf : Rd Bf w 1 Af nf kf (is mf)) (hv : V_TowerFrobenius Pf Mf mf x k Q) :
    Calls Try.prog 3 #[.agg #[.int .i64 Pf, .int .i64 Mf, .slice Af nf kf], .int .i64 x, .int .i64 k] w fun e w' => ∃ v Qr, e = .returned v ∧ w.grownBy w' none ∧ Rows w.heap.size none w' Qr ∧ News w.heap.size Qr ∧ ∃ (r0 : Bool), v = .bool r0 ∧ Qr = [] ∧ Q r0 := by
  have hnf := hf.ilen
  subst hnf
  refine calls_swap ?_
  refine calls_of_W (vs := [.agg #[.int .i64 Pf, .int .i64 Mf, .slice Af mf.length kf], .int .i64 x, .int .i64 k]) [6] Try.func3 rfl rfl rfl rfl ?_
  have hS := St.start w
  unfold V_TowerFrobenius at hv
  refine W.seq ?_
  refine W.region ?_
  refine SL.box (z := 3) (cs := [.int .i64 Pf, .int .i64 Mf, .slice Af mf.length kf]) hS rfl rfl rfl rfl ?_
  intro g11 w12 hS
  refine WL.assign rfl rfl ?_
  refine WL.done ?_
  refine W.seq ?_
  refine W.seq ?_
  refine W.region ?_
  refine SL.call hS (ok_alive  hv) Try.func20 rfl Try.nm20 rfl rfl ?_
  rintro _ _ w13 ⟨r14, rfl, rfl, hv⟩ hGw13 hS
  change St _ _ _ _ [.row 24 3 (some ⟨g11, 0, none⟩) 1 1 [.int .i64 Pf, .int .i64 Mf, .slice Af mf.length kf]] at hS
  refine WL.not rfl rfl ?_
  refine WL.done ?_
  refine W.cond2 rfl (fun c15 => ?_) (fun c15 => ?_)
  · have hv := hv.1 (c15)
    refine W.seq ?_
    refine W.region ?_
    refine WL.assign rfl rfl ?_
    refine WL.done ?_
    refine W.ret ?_
    refine ⟨_, rfl, Fin.nil ?_⟩
    exact ⟨_, hS.ext, (hS.pick [] rfl).rows, News.of (hS.pick [] rfl).rows rfl, ⟨false, rfl, rfl, hv⟩⟩
  · have hv := hv.2 (c15)
    refine W.skip ?_
    refine W.seq ?_
    refine W.region ?_
    refine WL.loadV (cs := [.int .i64 Pf, .int .i64 Mf, .slice Af mf.length kf]) Try.el24 Try.agg24 rfl rfl (Own.vcells (hS.own (i := 0) rfl)) rfl ?_
    refine SL.call hS (ok_made (hS.ro hf) hv) Try.func21 rfl Try.nm21 rfl rfl ?_
    rintro _ _ w17 ⟨o, hv, hK⟩ hGw17 hS
    cases o with
    | none =>
      obtain ⟨rfl, rfl⟩ := hK
      change St _ _ _ _ [.row 24 3 (some ⟨g11, 0, none⟩) 1 1 [.int .i64 Pf, .int .i64 Mf, .slice Af mf.length kf]] at hS
      refine WL.assign rfl rfl ?_
      refine WL.done ?_
      refine W.seq ?_
      refine W.seq ?_
      refine W.region ?_
      refine WL.move rfl rfl ?_
      refine WL.eqlPn Try.underlying26 rfl rfl rfl rfl ?_
      refine WL.done ?_
      refine W.condT rfl ?_
      refine W.seq ?_
      refine W.region ?_
      refine WL.assign rfl rfl ?_
      refine WL.done ?_
      refine W.ret ?_
      refine ⟨_, rfl, Fin.nil ?_⟩
      exact ⟨_, hS.ext, (hS.pick [] rfl).rows, News.of (hS.pick [] rfl).rows rfl, ⟨true, rfl, rfl, hv⟩⟩
    | some F19 =>
      obtain ⟨ad20, lo21, hi22, rfl, rfl⟩ := hK
      change St _ _ _ _ [.ch lo21 hi22 (fun wz => GFX lo21 hi22 wz ad20 F19), .row 24 3 (some ⟨g11, 0, none⟩) 1 1 [.int .i64 Pf, .int .i64 Mf, .slice Af mf.length kf]] at hS
      refine WL.assign rfl rfl ?_
      refine WL.done ?_
      refine W.seq ?_
      refine W.seq ?_
      refine W.region ?_
      refine WL.move rfl rfl ?_
      refine WL.eqlPn Try.underlying26 rfl rfl rfl rfl ?_
      refine WL.done ?_
      refine W.condF rfl ?_
      refine W.skip ?_
      refine W.seq ?_
      obtain ⟨o29, hv⟩ := hv
      obtain ⟨o33, hv⟩ := hv
      obtain ⟨o37, hv⟩ := hv
      have hS0 := hS
      refine W.drawX 11 (fun _ => false) (fun _ => none) [⟨[], [2], true⟩, ⟨[], [3], true⟩, ⟨[1], [], false⟩, ⟨[0, 2], [], true⟩, ⟨[], [3], true⟩, ⟨[4], [], false⟩, ⟨[3, 5], [], true⟩, ⟨[], [3], true⟩, ⟨[7], [], false⟩, ⟨[6, 8], [], true⟩, ⟨[9], [], true⟩] [[(2, .int .i64 k)], [(3, .pointer (some ⟨g11, 0, none⟩))], [], [], [(3, .pointer (some ⟨g11, 0, none⟩))], [], [], [(3, .pointer (some ⟨g11, 0, none⟩))], [], [], []] (fun iQ => [fun v _ => v = .int .i64 k, fun v _ => v = .pointer (some ((⟨g11, 0, none⟩ : Addr).add 1)), fun v _ => v = .int .i64 Mf, fun v _ => v = .int .i64 (k.tmod Mf), fun v _ => v = .pointer (some ((⟨g11, 0, none⟩ : Addr).add 1)), fun v _ => v = .int .i64 Mf, fun v _ => v = .int .i64 ((k.tmod Mf) + Mf), fun v _ => v = .pointer (some ((⟨g11, 0, none⟩ : Addr).add 1)), fun v _ => v = .int .i64 Mf, fun v _ => v = .int .i64 (((k.tmod Mf) + Mf).tmod Mf), fun v _ => v = .int .i64 (((k.tmod Mf) + Mf).tmod Mf)].getD iQ (fun _ _ => True)) Try.mixed (by kernel_rfl) ?_ (by kernel_rfl) ?_ ?_
      · refine Vs_monoT _ ?_
        intro VQ hVQ vQ wQ1 wQ2 hQ1 hQ2
        simp only [List.mem_cons, List.not_mem_nil, or_false] at hVQ
        rcases hVQ with rfl | rfl | rfl | rfl | rfl | rfl | rfl | rfl | rfl | rfl | rfl
        · exact hQ1
        · exact hQ1
        · exact hQ1
        · exact hQ1
        · exact hQ1
        · exact hQ1
        · exact hQ1
        · exact hQ1
        · exact hQ1
        · exact hQ1
        · exact hQ1
      · refine ⟨⟨rfl, ⟨rfl, trivial⟩, ?_⟩, ⟨rfl, ⟨rfl, trivial⟩, ?_⟩, ⟨rfl, trivial, ?_⟩, ⟨rfl, trivial, ?_⟩, ⟨rfl, ⟨rfl, trivial⟩, ?_⟩, ⟨rfl, trivial, ?_⟩, ⟨rfl, trivial, ?_⟩, ⟨rfl, ⟨rfl, trivial⟩, ?_⟩, ⟨rfl, trivial, ?_⟩, ⟨rfl, trivial, ?_⟩, ⟨rfl, trivial, ?_⟩, trivial⟩
        · intro w25 hE
          intro RR
          refine WL.move rfl rfl ?_
          exact WL.done ⟨_, rfl, rfl, rfl, (fun h => absurd h (by decide)), (fun j h => by cases h)⟩
        · intro w26 hE
          intro RR
          refine WL.fieldA (off := 1) Try.fla24_1 rfl rfl ?_
          exact WL.done ⟨_, rfl, rfl, rfl, (fun h => absurd h (by decide)), (fun j h => by cases h)⟩
        · intro w27 hE
          have hE := hE rfl
          have hS := hS.grow hE
          rintro _ rfl
          intro RR
          refine WL.load Try.underlying3 rfl rfl (Own.vcells (hS.own (i := 1) rfl) 1 _ rfl) rfl ?_
          exact WL.done ⟨_, rfl, ext_refl _, rfl, (fun h => absurd h (by decide)), (fun j h => by cases h)⟩
        · intro w28 hE
          rintro _ rfl
          rintro _ rfl
          intro RR
          refine WL.rem (r := (k.tmod Mf)) rfl rfl o29 rfl rfl ?_
          exact WL.done ⟨_, rfl, rfl, rfl, (fun h => absurd h (by decide)), (fun j h => by cases h)⟩
        · intro w30 hE
          intro RR
          refine WL.fieldA (off := 1) Try.fla24_1 rfl rfl ?_
          exact WL.done ⟨_, rfl, rfl, rfl, (fun h => absurd h (by decide)), (fun j h => by cases h)⟩
        · intro w31 hE
          have hE := hE rfl
          have hS := hS.grow hE
          rintro _ rfl
          intro RR
          refine WL.load Try.underlying3 rfl rfl (Own.vcells (hS.own (i := 1) rfl) 1 _ rfl) rfl ?_
          exact WL.done ⟨_, rfl, ext_refl _, rfl, (fun h => absurd h (by decide)), (fun j h => by cases h)⟩
        · intro w32 hE
          rintro _ rfl
          rintro _ rfl
          intro RR
          refine WL.add (r := ((k.tmod Mf) + Mf)) rfl rfl (wr o33) rfl ?_
          exact WL.done ⟨_, rfl, rfl, rfl, (fun h => absurd h (by decide)), (fun j h => by cases h)⟩
        · intro w34 hE
          intro RR
          refine WL.fieldA (off := 1) Try.fla24_1 rfl rfl ?_
          exact WL.done ⟨_, rfl, rfl, rfl, (fun h => absurd h (by decide)), (fun j h => by cases h)⟩
        · intro w35 hE
          have hE := hE rfl
          have hS := hS.grow hE
          rintro _ rfl
          intro RR
          refine WL.load Try.underlying3 rfl rfl (Own.vcells (hS.own (i := 1) rfl) 1 _ rfl) rfl ?_
          exact WL.done ⟨_, rfl, ext_refl _, rfl, (fun h => absurd h (by decide)), (fun j h => by cases h)⟩
        · intro w36 hE
          rintro _ rfl
          rintro _ rfl
          intro RR
          refine WL.rem (r := (((k.tmod Mf) + Mf).tmod Mf)) rfl rfl o37 rfl rfl ?_
          exact WL.done ⟨_, rfl, rfl, rfl, (fun h => absurd h (by decide)), (fun j h => by cases h)⟩
        · intro w38 hE
          rintro _ rfl
          intro RR
          refine WL.assign rfl rfl ?_
          exact WL.done ⟨_, rfl, rfl, rfl, (fun h => absurd h (by decide)), (fun j h => by cases h)⟩
      · intro vals w39 hT hVs hAp hCp
        have hS := hS.grow hT
        have hv0 : vals 0 = _ := hVs 0 (by decide)
        have hv1 : vals 1 = _ := hVs 1 (by decide)
        have hv2 : vals 2 = _ := hVs 2 (by decide)
        have hv3 : vals 3 = _ := hVs 3 (by decide)
        have hv4 : vals 4 = _ := hVs 4 (by decide)
        have hv5 : vals 5 = _ := hVs 5 (by decide)
        have hv6 : vals 6 = _ := hVs 6 (by decide)
        have hv7 : vals 7 = _ := hVs 7 (by decide)
        have hv8 : vals 8 = _ := hVs 8 (by decide)
        have hv9 : vals 9 = _ := hVs 9 (by decide)
        have hv10 : vals 10 = _ := hVs 10 (by decide)
        rw [show (List.filterMap (fun i => Option.map (fun t => (t, vals i)) (dstAt _ i)) (List.range _)) = [(15, .int .i64 k), (16, .pointer (some ((⟨g11, 0, none⟩ : Addr).add 1))), (17, .int .i64 Mf), (18, .int .i64 (k.tmod Mf)), (19, .pointer (some ((⟨g11, 0, none⟩ : Addr).add 1))), (20, .int .i64 Mf), (21, .int .i64 ((k.tmod Mf) + Mf)), (22, .pointer (some ((⟨g11, 0, none⟩ : Addr).add 1))), (23, .int .i64 Mf), (24, .int .i64 (((k.tmod Mf) + Mf).tmod Mf)), (8, .int .i64 (((k.tmod Mf) + Mf).tmod Mf))] from by
          show [(15, vals 0), (16, vals 1), (17, vals 2), (18, vals 3), (19, vals 4), (20, vals 5), (21, vals 6), (22, vals 7), (23, vals 8), (24, vals 9), (8, vals 10)] = _
          rw [hv0, hv1, hv2, hv3, hv4, hv5, hv6, hv7, hv8, hv9, hv10]]
        refine WA.done (by decide +kernel) ?_
        refine W.seq ?_
        obtain ⟨r44, o46, hv⟩ := hv
        obtain ⟨r51, o53, hv⟩ := hv
        have hS0 := hS
        refine W.drawX 10 (fun _ => false) (fun _ => none) [⟨[], [7], true⟩, ⟨[], [1], true⟩, ⟨[], [2], true⟩, ⟨[0, 1, 2], [], false⟩, ⟨[], [3], false⟩, ⟨[], [1], true⟩, ⟨[], [8], true⟩, ⟨[4, 5, 6], [], false⟩, ⟨[3, 7], [], true⟩, ⟨[8], [], true⟩] [[(7, .pointer (some ad20))], [(1, .int .i64 x)], [(2, .int .i64 k)], [], [(3, .pointer (some ⟨g11, 0, none⟩))], [(1, .int .i64 x)], [(8, .int .i64 (((k.tmod Mf) + Mf).tmod Mf))], [], [], []] (fun iQ => [fun v _ => v = .pointer (some ad20), fun v _ => v = .int .i64 x, fun v _ => v = .int .i64 k, fun v _ => v = .int .i64 r44, fun v _ => v = .agg #[.int .i64 Pf, .int .i64 Mf, .slice Af mf.length kf], fun v _ => v = .int .i64 x, fun v _ => v = .int .i64 (((k.tmod Mf) + Mf).tmod Mf), fun v _ => v = .int .i64 r51, fun v _ => v = .bool (decide (r44 = r51)), fun v _ => v = .bool (decide (r44 = r51))].getD iQ (fun _ _ => True)) Try.mixed (by kernel_rfl) ?_ (by kernel_rfl) ?_ ?_
        · refine Vs_monoT _ ?_
          intro VQ hVQ vQ wQ1 wQ2 hQ1 hQ2
          simp only [List.mem_cons, List.not_mem_nil, or_false] at hVQ
          rcases hVQ with rfl | rfl | rfl | rfl | rfl | rfl | rfl | rfl | rfl | rfl
          · exact hQ1
          · exact hQ1
          · exact hQ1
          · exact hQ1
          · exact hQ1
          · exact hQ1
          · exact hQ1
          · exact hQ1
          · exact hQ1
          · exact hQ1
        · refine ⟨⟨rfl, ⟨rfl, trivial⟩, ?_⟩, ⟨rfl, ⟨rfl, trivial⟩, ?_⟩, ⟨rfl, ⟨rfl, trivial⟩, ?_⟩, ⟨rfl, trivial, ?_⟩, ⟨rfl, ⟨rfl, trivial⟩, ?_⟩, ⟨rfl, ⟨rfl, trivial⟩, ?_⟩, ⟨rfl, ⟨rfl, trivial⟩, ?_⟩, ⟨rfl, trivial, ?_⟩, ⟨rfl, trivial, ?_⟩, ⟨rfl, trivial, ?_⟩, trivial⟩
          · intro w40 hE
            intro RR
            refine WL.move rfl rfl ?_
            exact WL.done ⟨_, rfl, rfl, rfl, (fun h => absurd h (by decide)), (fun j h => by cases h)⟩
          · intro w41 hE
            intro RR
            refine WL.move rfl rfl ?_
            exact WL.done ⟨_, rfl, rfl, rfl, (fun h => absurd h (by decide)), (fun j h => by cases h)⟩
          · intro w42 hE
            intro RR
            refine WL.move rfl rfl ?_
            exact WL.done ⟨_, rfl, rfl, rfl, (fun h => absurd h (by decide)), (fun j h => by cases h)⟩
          · intro w43 hE
            have hE := hE rfl
            have hS := hS.grow hE
            rintro _ rfl
            rintro _ rfl
            rintro _ rfl
            intro RR
            refine WL.call Try.func22 rfl Try.nm22 rfl rfl (calls_un (ok_frob (GFX.gfr (hS.chunk (i := 0) rfl)) o46)) ?_
            rintro _ w45 ⟨_, hGw45, hRww45, hNww45, r44q, rfl, rfl, he⟩
            subst he
            exact WL.done ⟨_, rfl, hGw45, rfl, (fun h => absurd h (by decide)), (fun j h => by cases h)⟩
          · intro w47 hE
            have hE := hE rfl
            have hS := hS.grow hE
            intro RR
            refine WL.loadV (cs := [.int .i64 Pf, .int .i64 Mf, .slice Af mf.length kf]) Try.el24 Try.agg24 rfl rfl (Own.vcells (hS.own (i := 1) rfl)) rfl ?_
            exact WL.done ⟨_, rfl, ext_refl _, rfl, (fun h => absurd h (by decide)), (fun j h => by cases h)⟩
          · intro w48 hE
            intro RR
            refine WL.move rfl rfl ?_
            exact WL.done ⟨_, rfl, rfl, rfl, (fun h => absurd h (by decide)), (fun j h => by cases h)⟩
          · intro w49 hE
            intro RR
            refine WL.move rfl rfl ?_
            exact WL.done ⟨_, rfl, rfl, rfl, (fun h => absurd h (by decide)), (fun j h => by cases h)⟩
          · intro w50 hE
            have hE := hE rfl
            have hS := hS.grow hE
            rintro _ rfl
            rintro _ rfl
            rintro _ rfl
            intro RR
            refine WL.call Try.func23 rfl Try.nm23 rfl rfl (calls_un (ok_rfrob (hS.ro hf) o53)) ?_
            rintro _ w52 ⟨_, hGw52, hRww52, hNww52, r51q, rfl, rfl, he⟩
            subst he
            exact WL.done ⟨_, rfl, hGw52, rfl, (fun h => absurd h (by decide)), (fun j h => by cases h)⟩
          · intro w54 hE
            rintro _ rfl
            rintro _ rfl
            intro RR
            refine WL.eqlD rfl rfl rfl ?_
            exact WL.done ⟨_, rfl, rfl, rfl, (fun h => absurd h (by decide)), (fun j h => by cases h)⟩
          · intro w55 hE
            rintro _ rfl
            intro RR
            refine WL.assign rfl rfl ?_
            exact WL.done ⟨_, rfl, rfl, rfl, (fun h => absurd h (by decide)), (fun j h => by cases h)⟩
        · intro vals w56 hT hVs hAp hCp
          have hS := hS.grow hT
          have hv0 : vals 0 = _ := hVs 0 (by decide)
          have hv1 : vals 1 = _ := hVs 1 (by decide)
          have hv2 : vals 2 = _ := hVs 2 (by decide)
          have hv3 : vals 3 = _ := hVs 3 (by decide)
          have hv4 : vals 4 = _ := hVs 4 (by decide)
          have hv5 : vals 5 = _ := hVs 5 (by decide)
          have hv6 : vals 6 = _ := hVs 6 (by decide)
          have hv7 : vals 7 = _ := hVs 7 (by decide)
          have hv8 : vals 8 = _ := hVs 8 (by decide)
          have hv9 : vals 9 = _ := hVs 9 (by decide)
          rw [show (List.filterMap (fun i => Option.map (fun t => (t, vals i)) (dstAt _ i)) (List.range _)) = [(25, .pointer (some ad20)), (26, .int .i64 x), (27, .int .i64 k), (28, .int .i64 r44), (29, .agg #[.int .i64 Pf, .int .i64 Mf, .slice Af mf.length kf]), (30, .int .i64 x), (31, .int .i64 (((k.tmod Mf) + Mf).tmod Mf)), (32, .int .i64 r51), (33, .bool (decide (r44 = r51))), (6, .bool (decide (r44 = r51)))] from by
            show [(25, vals 0), (26, vals 1), (27, vals 2), (28, vals 3), (29, vals 4), (30, vals 5), (31, vals 6), (32, vals 7), (33, vals 8), (6, vals 9)] = _
            rw [hv0, hv1, hv2, hv3, hv4, hv5, hv6, hv7, hv8, hv9]]
          refine WA.done (by decide +kernel) ?_
          refine W.ret ?_
          refine ⟨_, rfl, Fin.nil ?_⟩
          exact ⟨_, hS.ext, (hS.pick [] rfl).rows, News.of (hS.pick [] rfl).rows rfl, ⟨(decide (r44 = r51)), rfl, rfl, hv⟩⟩

end Go.Proofs.Ythjpminlkcklgaa
set_option linter.unusedVariables false
set_option linter.unusedSimpArgs false
namespace Go.Proofs.Ythjpminlkcklgaa
section
variable {F : GFv} {p m v g : Nat} {P M : Int} {mf : List Int}
theorem law_TowerFrobenius (x k : Int) (hk : I64 k) : V_TowerFrobenius P M mf x k (fun b => b = true) := by
  refine w_alive (nb (w_made (fun _ => rfl) fun F p m v g K hF => ?_))
  have hm0 := hF.m0
  have hm8 := hF.m8
  have eM := hF.eM
  have hm : (0 : Int) < m := by omega
  have t1 := Int.tmod_lt_of_pos k hm
  have t2 := Int.lt_tmod_of_pos k hm
  have hmod := modk (n := k) hm
  have h3 := Int.emod_nonneg k (show (m : Int) ≠ 0 by omega)
  have h4 := Int.emod_lt_of_pos k hm
  obtain ⟨j, hj⟩ : ∃ j : Nat, k % (m : Int) = j := ⟨_, (Int.toNat_of_nonneg h3).symm⟩
  have hF' := hF
  have e2 : ((k.tmod M + M).tmod M) = (j : Int) := by rw [eM, hmod, hj]
  rw [e2]
  refine ⟨by omega, by rw [eM]; exact small (by omega) (by omega), by omega, _, w_frob K hk rfl, _, w_rfrob K hF' (by omega) rfl, decide_eq_true ?_⟩
  rw [hj, Int.toNat_natCast]
end
end Go.Proofs.Ythjpminlkcklgaa
