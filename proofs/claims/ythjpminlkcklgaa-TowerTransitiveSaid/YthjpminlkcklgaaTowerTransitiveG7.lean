/- Contracts of functions of the program, and what they lean on: D7, D8, D9, D10, Draw6, D12, D13, D14, D15, Fa, Fb, Fg, Fp. -/
import Derived.Test.YthjpminlkcklgaaTowerTransitiveG6
set_option linter.unusedSimpArgs false
set_option linter.unusedVariables false
namespace Go.Proofs.Ythjpminlkcklgaa
open Go.RowKit
end Go.Proofs.Ythjpminlkcklgaa
set_option linter.unusedSimpArgs false
set_option linter.unusedVariables false
namespace Go.Proofs.Ythjpminlkcklgaa
open Go.RowKit
end Go.Proofs.Ythjpminlkcklgaa
set_option linter.unusedSimpArgs false
set_option linter.unusedVariables false
namespace Go.Proofs.Ythjpminlkcklgaa
open Go.RowKit
end Go.Proofs.Ythjpminlkcklgaa
set_option linter.unusedSimpArgs false
set_option linter.unusedVariables false
namespace Go.Proofs.Ythjpminlkcklgaa
open Go.RowKit
def V_exponent (Fg : GFv) (x : Int) (Q : Int → Prop) : Prop :=
  (I64 (Fg.q - (1 : Int))) ∧ (((Fg.q - (1 : Int)) ≠ 0) ∧ (∃ J14 : Int → Prop, ((((x.tmod (Fg.q - (1 : Int))) < (0 : Int)) → ((I64 (Fg.q - (1 : Int))) ∧ ((I64 ((x.tmod (Fg.q - (1 : Int))) + (Fg.q - (1 : Int)))) ∧ (J14 ((x.tmod (Fg.q - (1 : Int))) + (Fg.q - (1 : Int))))))) ∧ (¬ ((x.tmod (Fg.q - (1 : Int))) < (0 : Int)) → (J14 (x.tmod (Fg.q - (1 : Int)))))) ∧ ∀ (z13 : Int), (J14 z13 → Q z13)))
theorem ok_exponent {w : World} {Q : Int → Prop} {Fg : GFv} {x : Int} {ag : Addr} {Bg : Nat} (hgg : GFR Bg w ag Fg) (hv : V_exponent Fg x Q) :
    Calls Try.prog 86 #[.pointer (some ag), .int .i64 x] w fun e w' => ∃ v Qr, e = .returned v ∧ w.grownBy w' none ∧ Rows w.heap.size none w' Qr ∧ News w.heap.size Qr ∧ ∃ (r0 : Int), v = .int .i64 r0 ∧ Qr = [] ∧ Q r0 := by
  have hgg_ := hgg
  obtain ⟨Ag_mod, kg_mod, Ag_exp, kg_exp, Ag_log, kg_log, Ag_above, kg_above, hg_c, hg_mod, hg_exp, hg_log, hg_above⟩ := hgg_
  refine calls_swap ?_
  refine calls_of_W (vs := [.pointer (some ag), .int .i64 x]) [4] Try.func86 rfl rfl rfl rfl ?_
  have hS := St.start w
  unfold V_exponent at hv
  refine W.seq ?_
  refine W.region ?_
  refine WL.assign rfl rfl ?_
  refine WL.done ?_
  refine W.seq ?_
  refine W.region ?_
  refine WL.move rfl rfl ?_
  refine WL.move rfl rfl ?_
  refine WL.nilCheck rfl rfl ?_
  refine WL.fieldA (off := 3) Try.fla92_1 rfl rfl ?_
  refine WL.load Try.underlying3 rfl rfl (Rd.at_ (hS.ro hg_c) (j := 3) rfl) rfl ?_
  obtain ⟨o11, hv⟩ := hv
  refine WL.sub (r := (Fg.q - (1 : Int))) rfl rfl (wr o11) rfl ?_
  obtain ⟨o12, hv⟩ := hv
  refine WL.rem (r := (x.tmod (Fg.q - (1 : Int)))) rfl rfl o12 rfl rfl ?_
  refine WL.assign rfl rfl ?_
  refine WL.done ?_
  refine W.seq ?_
  refine W.seq ?_
  refine W.region ?_
  refine WL.move rfl rfl ?_
  refine WL.lssD rfl rfl rfl ?_
  refine WL.done ?_
  obtain ⟨J14, hv, hk19⟩ := hv
  refine W.cutN (σ := Int) (fun z13 w1 => J14 z13 ∧ St TT w none w1 []) (fun z13 => [(1, .int .i64 z13), (4, .int .i64 (0 : Int))]) ?_ ?_
  · refine W.cond2 rfl (fun c15 => ?_) (fun c15 => ?_)
    · have hv := hv.1 (of_decide_eq_true c15)
      refine W.region ?_
      refine WL.move rfl rfl ?_
      refine WL.move rfl rfl ?_
      refine WL.nilCheck rfl rfl ?_
      refine WL.fieldA (off := 3) Try.fla92_1 rfl rfl ?_
      refine WL.load Try.underlying3 rfl rfl (Rd.at_ (hS.ro hg_c) (j := 3) rfl) rfl ?_
      obtain ⟨o16, hv⟩ := hv
      refine WL.sub (r := (Fg.q - (1 : Int))) rfl rfl (wr o16) rfl ?_
      obtain ⟨o17, hv⟩ := hv
      refine WL.add (r := ((x.tmod (Fg.q - (1 : Int))) + (Fg.q - (1 : Int)))) rfl rfl (wr o17) rfl ?_
      refine WL.assign rfl rfl ?_
      refine WL.done ?_
      change St _ _ _ _ [] at hS
      exact ⟨((x.tmod (Fg.q - (1 : Int))) + (Fg.q - (1 : Int))), ⟨rfl, rfl, trivial⟩, rfl, hv, hS⟩
    · have hv := hv.2 (of_decide_eq_false c15)
      refine W.skip ?_
      change St _ _ _ _ [] at hS
      exact ⟨(x.tmod (Fg.q - (1 : Int))), ⟨rfl, rfl, trivial⟩, rfl, hv, hS⟩
  · rintro z13 w18 ⟨hv, hS⟩
    have hv := hk19 z13 hv
    refine W.seq ?_
    refine W.region ?_
    refine WL.move rfl rfl ?_
    refine WL.assign rfl rfl ?_
    refine WL.done ?_
    refine W.ret ?_
    refine ⟨_, rfl, Fin.nil ?_⟩
    exact ⟨_, hS.ext, (hS.pick [] rfl).rows, News.of (hS.pick [] rfl).rows rfl, ⟨z13, rfl, rfl, hv⟩⟩

def V_Pow (Fg : GFv) (x : Int) (n : Int) (Q : Int × Int → Prop) : Prop :=
  V_isUnit Fg x (fun r12 => ((r12 = true) → ((0 ≤ x ∧ x < (Fg.log.length : Nat)) ∧ (∃ (r30 : Int), V_exponent Fg n (fun q => q = r30) ∧ ((I64 ((gi Fg.log x) * r30)) ∧ (∃ (r36 : Int), V_exponent Fg ((gi Fg.log x) * r30) (fun q => q = r36) ∧ ((0 ≤ r36 ∧ r36 < (Fg.exp.length : Nat)) ∧ (Q ((gi Fg.exp r36), (0 : Int))))))))) ∧ (r12 = false → (((n < (0 : Int)) → (Q ((0 : Int), (7 : Int)))) ∧ (¬ (n < (0 : Int)) → (((n = (0 : Int)) → (Q ((1 : Int), (0 : Int)))) ∧ (¬ (n = (0 : Int)) → (Q ((0 : Int), (0 : Int)))))))))
theorem ok_Pow {w : World} {Q : Int × Int → Prop} {Fg : GFv} {x : Int} {n : Int} {ag : Addr} {Bg : Nat} (hgg : GFR Bg w ag Fg) (hv : V_Pow Fg x n Q) :
    Calls Try.prog 60 #[.pointer (some ag), .int .i64 x, .int .i64 n] w fun e w' => ∃ v Qr, e = .returned v ∧ w.grownBy w' none ∧ Rows w.heap.size none w' Qr ∧ News w.heap.size Qr ∧ ∃ (r0 : Int) (r1 : Int), v = .tuple #[.int .i64 r0, .int .i64 r1] ∧ Qr = [] ∧ Q (r0, r1) := by
  have hgg_ := hgg
  obtain ⟨Ag_mod, kg_mod, Ag_exp, kg_exp, Ag_log, kg_log, Ag_above, kg_above, hg_c, hg_mod, hg_exp, hg_log, hg_above⟩ := hgg_
  refine calls_swap ?_
  refine calls_of_W (vs := [.pointer (some ag), .int .i64 x, .int .i64 n]) [6, 7] Try.func60 rfl rfl rfl rfl ?_
  have hS := St.start w
  unfold V_Pow at hv
  refine W.seq ?_
  refine W.region ?_
  refine WL.assign rfl rfl ?_
  refine WL.assign rfl rfl ?_
  refine WL.done ?_
  refine W.seq ?_
  refine W.block ?_
  refine W.seq ?_
  refine W.region ?_
  refine WL.move rfl rfl ?_
  refine WL.move rfl rfl ?_
  refine SL.call hS (ok_isUnit (GFR.ext (GFR.norm hgg) hS.ext) hv) Try.func85 rfl Try.nm85 rfl rfl ?_
  rintro _ _ w11 ⟨r12, rfl, rfl, hv⟩ hGw11 hS
  change St _ _ _ _ [] at hS
  refine WL.assign rfl rfl ?_
  refine WL.done ?_
  refine W.cond2 rfl (fun c13 => ?_) (fun c13 => ?_)
  · have hv := hv.1 (c13)
    refine W.seq ?_
    obtain ⟨o25, hv⟩ := hv
    obtain ⟨r30, o32, hv⟩ := hv
    obtain ⟨o34, hv⟩ := hv
    obtain ⟨r36, o38, hv⟩ := hv
    obtain ⟨o40, hv⟩ := hv
    have hS0 := hS
    refine W.drawX 21 (fun _ => false) (fun _ => none) [⟨[], [0], true⟩, ⟨[0], [], true⟩, ⟨[1], [], true⟩, ⟨[2], [], false⟩, ⟨[], [0], true⟩, ⟨[], [0], true⟩, ⟨[5], [], true⟩, ⟨[6], [], true⟩, ⟨[7], [], false⟩, ⟨[], [1], true⟩, ⟨[8, 9], [], true⟩, ⟨[10], [], false⟩, ⟨[], [0], true⟩, ⟨[], [2], true⟩, ⟨[12, 13], [], false⟩, ⟨[11, 14], [], true⟩, ⟨[4, 15], [], false⟩, ⟨[3, 16], [], true⟩, ⟨[17], [], false⟩, ⟨[18], [], true⟩, ⟨[], [], true⟩] [[(0, .pointer (some ag))], [], [], [], [(0, .pointer (some ag))], [(0, .pointer (some ag))], [], [], [], [(1, .int .i64 x)], [], [], [(0, .pointer (some ag))], [(2, .int .i64 n)], [], [], [], [], [], [], []] (fun iQ => [fun v _ => v = .pointer (some ag), fun v _ => v = .pointer (some ag), fun v _ => v = .pointer (some (ag.add 4)), fun v _ => v = .slice Ag_exp Fg.exp.length kg_exp, fun v _ => v = .pointer (some ag), fun v _ => v = .pointer (some ag), fun v _ => v = .pointer (some ag), fun v _ => v = .pointer (some (ag.add 5)), fun v _ => v = .slice Ag_log Fg.log.length kg_log, fun v _ => v = .int .i64 x, fun v _ => v = .pointer (some ((adOf Ag_log).add x.toNat)), fun v _ => v = .int .i64 (gi Fg.log x), fun v _ => v = .pointer (some ag), fun v _ => v = .int .i64 n, fun v _ => v = .int .i64 r30, fun v _ => v = .int .i64 ((gi Fg.log x) * r30), fun v _ => v = .int .i64 r36, fun v _ => v = .pointer (some ((adOf Ag_exp).add r36.toNat)), fun v _ => v = .int .i64 (gi Fg.exp r36), fun v _ => v = .int .i64 (gi Fg.exp r36), fun v _ => v = .int .i64 (0 : Int)].getD iQ (fun _ _ => True)) Try.mixed (by kernel_rfl) ?_ (by kernel_rfl) ?_ ?_
    · refine Vs_monoT _ ?_
      intro VQ hVQ vQ wQ1 wQ2 hQ1 hQ2
      simp only [List.mem_cons, List.not_mem_nil, or_false] at hVQ
      rcases hVQ with rfl | rfl | rfl | rfl | rfl | rfl | rfl | rfl | rfl | rfl | rfl | rfl | rfl | rfl | rfl | rfl | rfl | rfl | rfl | rfl | rfl
      · exact hQ1
      · exact hQ1
      · exact hQ1
      · exact hQ1
      · exact hQ1
      · exact hQ1
      · exact hQ1
      · exact hQ1
      · exact hQ1
      · exact hQ1
      · exact hQ1
      · exact hQ1
      · exact hQ1
      · exact hQ1
      · exact hQ1
      · exact hQ1
      · exact hQ1
      · exact hQ1
      · exact hQ1
      · exact hQ1
      · exact hQ1
    · refine ⟨⟨rfl, ⟨rfl, trivial⟩, ?_⟩, ⟨rfl, trivial, ?_⟩, ⟨rfl, trivial, ?_⟩, ⟨rfl, trivial, ?_⟩, ⟨rfl, ⟨rfl, trivial⟩, ?_⟩, ⟨rfl, ⟨rfl, trivial⟩, ?_⟩, ⟨rfl, trivial, ?_⟩, ⟨rfl, trivial, ?_⟩, ⟨rfl, trivial, ?_⟩, ⟨rfl, ⟨rfl, trivial⟩, ?_⟩, ⟨rfl, trivial, ?_⟩, ⟨rfl, trivial, ?_⟩, ⟨rfl, ⟨rfl, trivial⟩, ?_⟩, ⟨rfl, ⟨rfl, trivial⟩, ?_⟩, ⟨rfl, trivial, ?_⟩, ⟨rfl, trivial, ?_⟩, ⟨rfl, trivial, ?_⟩, ⟨rfl, trivial, ?_⟩, ⟨rfl, trivial, ?_⟩, ⟨rfl, trivial, ?_⟩, ⟨rfl, trivial, ?_⟩, trivial⟩
      · intro w14 hE
        intro RR
        refine WL.move rfl rfl ?_
        exact WL.done ⟨_, rfl, rfl, rfl, (fun h => absurd h (by decide)), (fun j h => by cases h)⟩
      · intro w15 hE
        rintro _ rfl
        intro RR
        refine WL.nilCheck rfl rfl ?_
        exact WL.done ⟨_, rfl, rfl, rfl, (fun h => absurd h (by decide)), (fun j h => by cases h)⟩
      · intro w16 hE
        rintro _ rfl
        intro RR
        refine WL.fieldA (off := 4) Try.fla92_2 rfl rfl ?_
        exact WL.done ⟨_, rfl, rfl, rfl, (fun h => absurd h (by decide)), (fun j h => by cases h)⟩
      · intro w17 hE
        have hE := hE rfl
        have hS := hS.grow hE
        rintro _ rfl
        intro RR
        refine WL.load Try.underlying22 rfl rfl (Rd.at_ (hS.ro hg_c) (j := 4) rfl) rfl ?_
        exact WL.done ⟨_, rfl, ext_refl _, rfl, (fun h => absurd h (by decide)), (fun j h => by cases h)⟩
      · intro w18 hE
        intro RR
        refine WL.move rfl rfl ?_
        exact WL.done ⟨_, rfl, rfl, rfl, (fun h => absurd h (by decide)), (fun j h => by cases h)⟩
      · intro w19 hE
        intro RR
        refine WL.move rfl rfl ?_
        exact WL.done ⟨_, rfl, rfl, rfl, (fun h => absurd h (by decide)), (fun j h => by cases h)⟩
      · intro w20 hE
        rintro _ rfl
        intro RR
        refine WL.nilCheck rfl rfl ?_
        exact WL.done ⟨_, rfl, rfl, rfl, (fun h => absurd h (by decide)), (fun j h => by cases h)⟩
      · intro w21 hE
        rintro _ rfl
        intro RR
        refine WL.fieldA (off := 5) Try.fla92_3 rfl rfl ?_
        exact WL.done ⟨_, rfl, rfl, rfl, (fun h => absurd h (by decide)), (fun j h => by cases h)⟩
      · intro w22 hE
        have hE := hE rfl
        have hS := hS.grow hE
        rintro _ rfl
        intro RR
        refine WL.load Try.underlying22 rfl rfl (Rd.at_ (hS.ro hg_c) (j := 5) rfl) rfl ?_
        exact WL.done ⟨_, rfl, ext_refl _, rfl, (fun h => absurd h (by decide)), (fun j h => by cases h)⟩
      · intro w23 hE
        intro RR
        refine WL.move rfl rfl ?_
        exact WL.done ⟨_, rfl, rfl, rfl, (fun h => absurd h (by decide)), (fun j h => by cases h)⟩
      · intro w24 hE
        rintro _ rfl
        rintro _ rfl
        intro RR
        refine SL.index Try.underlying22 Try.el3 (hS.ro hg_log) rfl rfl o25 rfl ?_
        exact WL.done ⟨_, rfl, rfl, rfl, (fun h => absurd h (by decide)), (fun j h => by cases h)⟩
      · intro w26 hE
        have hE := hE rfl
        have hS := hS.grow hE
        rintro _ rfl
        intro RR
        refine WL.load Try.underlying3 rfl rfl (Rd.gi (hS.ro hg_log) o25) rfl ?_
        exact WL.done ⟨_, rfl, ext_refl _, rfl, (fun h => absurd h (by decide)), (fun j h => by cases h)⟩
      · intro w27 hE
        intro RR
        refine WL.move rfl rfl ?_
        exact WL.done ⟨_, rfl, rfl, rfl, (fun h => absurd h (by decide)), (fun j h => by cases h)⟩
      · intro w28 hE
        intro RR
        refine WL.move rfl rfl ?_
        exact WL.done ⟨_, rfl, rfl, rfl, (fun h => absurd h (by decide)), (fun j h => by cases h)⟩
      · intro w29 hE
        have hE := hE rfl
        have hS := hS.grow hE
        rintro _ rfl
        rintro _ rfl
        intro RR
        refine WL.call Try.func86 rfl Try.nm86 rfl rfl (calls_un (ok_exponent (GFR.ext (GFR.norm hgg) hS.ext) o32)) ?_
        rintro _ w31 ⟨_, hGw31, hRww31, hNww31, r30q, rfl, rfl, he⟩
        subst he
        exact WL.done ⟨_, rfl, hGw31, rfl, (fun h => absurd h (by decide)), (fun j h => by cases h)⟩
      · intro w33 hE
        rintro _ rfl
        rintro _ rfl
        intro RR
        refine WL.mul (r := ((gi Fg.log x) * r30)) rfl rfl (wr o34) rfl ?_
        exact WL.done ⟨_, rfl, rfl, rfl, (fun h => absurd h (by decide)), (fun j h => by cases h)⟩
      · intro w35 hE
        have hE := hE rfl
        have hS := hS.grow hE
        rintro _ rfl
        rintro _ rfl
        intro RR
        refine WL.call Try.func86 rfl Try.nm86 rfl rfl (calls_un (ok_exponent (GFR.ext (GFR.norm hgg) hS.ext) o38)) ?_
        rintro _ w37 ⟨_, hGw37, hRww37, hNww37, r36q, rfl, rfl, he⟩
        subst he
        exact WL.done ⟨_, rfl, hGw37, rfl, (fun h => absurd h (by decide)), (fun j h => by cases h)⟩
      · intro w39 hE
        rintro _ rfl
        rintro _ rfl
        intro RR
        refine SL.index Try.underlying22 Try.el3 (hS.ro hg_exp) rfl rfl o40 rfl ?_
        exact WL.done ⟨_, rfl, rfl, rfl, (fun h => absurd h (by decide)), (fun j h => by cases h)⟩
      · intro w41 hE
        have hE := hE rfl
        have hS := hS.grow hE
        rintro _ rfl
        intro RR
        refine WL.load Try.underlying3 rfl rfl (Rd.gi (hS.ro hg_exp) o40) rfl ?_
        exact WL.done ⟨_, rfl, ext_refl _, rfl, (fun h => absurd h (by decide)), (fun j h => by cases h)⟩
      · intro w42 hE
        rintro _ rfl
        intro RR
        refine WL.assign rfl rfl ?_
        exact WL.done ⟨_, rfl, rfl, rfl, (fun h => absurd h (by decide)), (fun j h => by cases h)⟩
      · intro w43 hE
        intro RR
        refine WL.assign rfl rfl ?_
        exact WL.done ⟨_, rfl, rfl, rfl, (fun h => absurd h (by decide)), (fun j h => by cases h)⟩
    · intro vals w44 hT hVs hAp hCp
      have hS := hS.grow hT
      have hv0 : vals 0 = _ := hVs 0 (by decide)
      have hv1 : vals 1 = _ := hVs 1 (by decide)
      have hv2 : vals 2 = _ := hVs 2 (by decide)
      have hv3 : vals 3 = _ := hVs 3 (by decide)
      have hv4 : vals 4 = _ := hVs 4 (by decide)
      have hv5 : vals 5 = _ := hVs 5 (by decide)
      have hv6 : vals 6 = _ := hVs 6 (by decide)
      have hv7 : vals 7 = _ := hVs 7 (by decide)
      have hv8 : vals 8 = _ := hVs 8 (by decide)
      have hv9 : vals 9 = _ := hVs 9 (by decide)
      have hv10 : vals 10 = _ := hVs 10 (by decide)
      have hv11 : vals 11 = _ := hVs 11 (by decide)
      have hv12 : vals 12 = _ := hVs 12 (by decide)
      have hv13 : vals 13 = _ := hVs 13 (by decide)
      have hv14 : vals 14 = _ := hVs 14 (by decide)
      have hv15 : vals 15 = _ := hVs 15 (by decide)
      have hv16 : vals 16 = _ := hVs 16 (by decide)
      have hv17 : vals 17 = _ := hVs 17 (by decide)
      have hv18 : vals 18 = _ := hVs 18 (by decide)
      have hv19 : vals 19 = _ := hVs 19 (by decide)
      have hv20 : vals 20 = _ := hVs 20 (by decide)
      rw [show (List.filterMap (fun i => Option.map (fun t => (t, vals i)) (dstAt _ i)) (List.range _)) = [(12, .pointer (some ag)), (13, .pointer (some ag)), (14, .pointer (some (ag.add 4))), (15, .slice Ag_exp Fg.exp.length kg_exp), (16, .pointer (some ag)), (17, .pointer (some ag)), (18, .pointer (some ag)), (19, .pointer (some (ag.add 5))), (20, .slice Ag_log Fg.log.length kg_log), (21, .int .i64 x), (22, .pointer (some ((adOf Ag_log).add x.toNat))), (23, .int .i64 (gi Fg.log x)), (24, .pointer (some ag)), (25, .int .i64 n), (26, .int .i64 r30), (27, .int .i64 ((gi Fg.log x) * r30)), (28, .int .i64 r36), (29, .pointer (some ((adOf Ag_exp).add r36.toNat))), (30, .int .i64 (gi Fg.exp r36)), (6, .int .i64 (gi Fg.exp r36)), (7, .int .i64 (0 : Int))] from by
        show [(12, vals 0), (13, vals 1), (14, vals 2), (15, vals 3), (16, vals 4), (17, vals 5), (18, vals 6), (19, vals 7), (20, vals 8), (21, vals 9), (22, vals 10), (23, vals 11), (24, vals 12), (25, vals 13), (26, vals 14), (27, vals 15), (28, vals 16), (29, vals 17), (30, vals 18), (6, vals 19), (7, vals 20)] = _
        rw [hv0, hv1, hv2, hv3, hv4, hv5, hv6, hv7, hv8, hv9, hv10, hv11, hv12, hv13, hv14, hv15, hv16, hv17, hv18, hv19, hv20]]
      refine WA.done (by decide +kernel) ?_
      refine W.ret ?_
      refine ⟨_, rfl, Fin.nil ?_⟩
      exact ⟨_, hS.ext, (hS.pick [] rfl).rows, News.of (hS.pick [] rfl).rows rfl, ⟨(gi Fg.exp r36), (0 : Int), rfl, rfl, hv⟩⟩
  · have hv := hv.2 (c13)
    refine W.seq ?_
    refine W.region ?_
    refine WL.move rfl rfl ?_
    refine WL.lssD rfl rfl rfl ?_
    refine WL.assign rfl rfl ?_
    refine WL.done ?_
    refine W.cond2 rfl (fun c45 => ?_) (fun c45 => ?_)
    · have hv := hv.1 (of_decide_eq_true c45)
      refine W.seq ?_
      refine W.region ?_
      refine WL.assign rfl rfl ?_
      refine WL.assign rfl rfl ?_
      refine WL.done ?_
      refine W.ret ?_
      refine ⟨_, rfl, Fin.nil ?_⟩
      exact ⟨_, hS.ext, (hS.pick [] rfl).rows, News.of (hS.pick [] rfl).rows rfl, ⟨(0 : Int), (7 : Int), rfl, rfl, hv⟩⟩
    · have hv := hv.2 (of_decide_eq_false c45)
      refine W.seq ?_
      refine W.region ?_
      refine WL.move rfl rfl ?_
      refine WL.eqlD rfl rfl rfl ?_
      refine WL.assign rfl rfl ?_
      refine WL.done ?_
      refine W.cond2 rfl (fun c46 => ?_) (fun c46 => ?_)
      · have hv := hv.1 (of_decide_eq_true c46)
        refine W.seq ?_
        refine W.region ?_
        refine WL.assign rfl rfl ?_
        refine WL.assign rfl rfl ?_
        refine WL.done ?_
        refine W.ret ?_
        refine ⟨_, rfl, Fin.nil ?_⟩
        exact ⟨_, hS.ext, (hS.pick [] rfl).rows, News.of (hS.pick [] rfl).rows rfl, ⟨(1 : Int), (0 : Int), rfl, rfl, hv⟩⟩
      · have hv := hv.2 (of_decide_eq_false c46)
        refine W.skip ?_
        refine W.seq ?_
        refine W.region ?_
        refine WL.assign rfl rfl ?_
        refine WL.assign rfl rfl ?_
        refine WL.done ?_
        refine W.ret ?_
        refine ⟨_, rfl, Fin.nil ?_⟩
        exact ⟨_, hS.ext, (hS.pick [] rfl).rows, News.of (hS.pick [] rfl).rows rfl, ⟨(0 : Int), (0 : Int), rfl, rfl, hv⟩⟩

def V_Sum (Fg : GFv) (l : List Int) (Q : Int → Prop) : Prop :=
  ∃ (I17 : Int → Int → Prop) (μ18 : Int → Int → Nat), I17 (0 : Int) (0 : Int) ∧ ∀ (z15 : Int) (z16 : Int), (I17 z15 z16 → (((z16 < ((l.length : Nat) : Int)) → ((0 ≤ z16 ∧ z16 < (l.length : Nat)) ∧ (V_Add Fg z15 (gi l z16) (fun r23 => (I64 (z16 + (1 : Int))) ∧ (I17 r23 (z16 + (1 : Int)) ∧ μ18 r23 (z16 + (1 : Int)) < μ18 z15 z16))))) ∧ (¬ (z16 < ((l.length : Nat) : Int)) → Q z15)))
theorem ok_Sum {w : World} {Q : Int → Prop} {Fg : GFv} {l : List Int} {ag : Addr} {Bg : Nat} (hgg : GFR Bg w ag Fg) {Bl : Nat} {Al : Option Addr} {nl kl : Nat} (hl : Rd Bl w 1 Al nl kl (is l)) (hv : V_Sum Fg l Q) :
    Calls Try.prog 76 #[.pointer (some ag), .slice Al nl kl] w fun e w' => ∃ v Qr, e = .returned v ∧ w.grownBy w' none ∧ Rows w.heap.size none w' Qr ∧ News w.heap.size Qr ∧ ∃ (r0 : Int), v = .int .i64 r0 ∧ Qr = [] ∧ Q r0 := by
  have hgg_ := hgg
  obtain ⟨Ag_mod, kg_mod, Ag_exp, kg_exp, Ag_log, kg_log, Ag_above, kg_above, hg_c, hg_mod, hg_exp, hg_log, hg_above⟩ := hgg_
  have hnl := hl.ilen
  subst hnl
  refine calls_swap ?_
  refine calls_of_W (vs := [.pointer (some ag), .slice Al l.length kl]) [4] Try.func76 rfl rfl rfl rfl ?_
  have hS := St.start w
  unfold V_Sum at hv
  refine W.seq ?_
  refine W.region ?_
  refine WL.assign rfl rfl ?_
  refine WL.done ?_
  refine W.seq ?_
  refine W.region ?_
  refine WL.assign rfl rfl ?_
  refine WL.done ?_
  refine W.seq ?_
  refine W.seq ?_
  refine W.region ?_
  refine WL.move rfl rfl ?_
  refine WL.len Try.underlying22 rfl rfl ?_
  refine WL.move rfl rfl ?_
  refine WL.done ?_
  refine W.block ?_
  obtain ⟨I17, μ18, hv, hk25⟩ := hv
  change St _ _ _ _ [] at hS
  refine W.loop (σ := Int × Int) (fun q w1 => match q with | (z15, z16) => I17 z15 z16 ∧ St TT w none w1 []) (fun q => match q with | (z15, z16) => [(0, .pointer (some ag)), (4, .int .i64 (0 : Int)), (5, .int .i64 z15), (8, .slice Al l.length kl), (9, .int .i64 ((l.length : Nat) : Int)), (10, .int .i64 z16)]) (fun q => match q with | (z15, z16) => μ18 z15 z16) ((0 : Int), (0 : Int)) ⟨hv, hS⟩ ⟨rfl, rfl, rfl, rfl, rfl, rfl, trivial⟩ ?_
  rintro ⟨z15, z16⟩ w19 ⟨hv, hS⟩
  have hv := hk25 z15 z16 hv
  refine W.seq ?_
  refine W.region ?_
  refine WL.lssD rfl rfl rfl ?_
  refine WL.done ?_
  refine W.seq ?_
  refine W.cond2 rfl (fun c20 => ?_) (fun c20 => ?_)
  · have hv := hv.1 (of_decide_eq_true c20)
    refine W.skip ?_
    refine W.seq ?_
    refine W.block ?_
    refine W.seq ?_
    refine W.region ?_
    obtain ⟨o21, hv⟩ := hv
    refine SL.index Try.underlying22 Try.el3 (hS.ro hl) rfl rfl o21 rfl ?_
    refine WL.load Try.underlying3 rfl rfl (Rd.gi (hS.ro hl) o21) rfl ?_
    refine WL.assign rfl rfl ?_
    refine WL.done ?_
    refine W.region ?_
    refine WL.move rfl rfl ?_
    refine WL.move rfl rfl ?_
    refine WL.move rfl rfl ?_
    refine SL.call hS (ok_Add (GFR.ext (GFR.norm hgg) hS.ext) hv) Try.func99 rfl Try.nm99 rfl rfl ?_
    rintro _ _ w22 ⟨r23, rfl, rfl, hv⟩ hGw22 hS
    change St _ _ _ _ [] at hS
    refine WL.assign rfl rfl ?_
    refine WL.done ?_
    refine W.region ?_
    obtain ⟨o24, hv⟩ := hv
    refine WL.add (r := (z16 + (1 : Int))) rfl rfl (wr o24) rfl ?_
    refine WL.move rfl rfl ?_
    refine WL.done ?_
    change St _ _ _ _ [] at hS
    exact ⟨(r23, (z16 + (1 : Int))), ⟨rfl, rfl, rfl, rfl, rfl, rfl, trivial⟩, hv.2, rfl, hv.1, hS⟩
  · have hv := hv.2 (of_decide_eq_false c20)
    refine W.exit ?_
    refine W.seq ?_
    refine W.region ?_
    refine WL.move rfl rfl ?_
    refine WL.assign rfl rfl ?_
    refine WL.done ?_
    refine W.ret ?_
    refine ⟨_, rfl, Fin.nil ?_⟩
    exact ⟨_, hS.ext, (hS.pick [] rfl).rows, News.of (hS.pick [] rfl).rows rfl, ⟨z15, rfl, rfl, hv⟩⟩

end Go.Proofs.Ythjpminlkcklgaa
set_option linter.unusedSimpArgs false
set_option linter.unusedVariables false
namespace Go.Proofs.Ythjpminlkcklgaa
open Go.RowKit
end Go.Proofs.Ythjpminlkcklgaa
set_option linter.unusedSimpArgs false
set_option linter.unusedVariables false
namespace Go.Proofs.Ythjpminlkcklgaa
open Go.RowKit
def V_isDegree (Fg : GFv) (d : Int) (Q : Bool → Prop) : Prop :=
  (((1 : Int) ≤ d) → (V_field Fg (fun q => match q with | (r13, r14, x15) => (d ≠ 0) ∧ (Q (decide ((r14.tmod d) = (0 : Int))))))) ∧ (¬ ((1 : Int) ≤ d) → Q false)
theorem ok_isDegree {w : World} {Q : Bool → Prop} {Fg : GFv} {d : Int} {ag : Addr} {Bg : Nat} (hgg : GFR Bg w ag Fg) (hv : V_isDegree Fg d Q) :
    Calls Try.prog 64 #[.pointer (some ag), .int .i64 d] w fun e w' => ∃ v Qr, e = .returned v ∧ w.grownBy w' none ∧ Rows w.heap.size none w' Qr ∧ News w.heap.size Qr ∧ ∃ (r0 : Bool), v = .bool r0 ∧ Qr = [] ∧ Q r0 := by
  have hgg_ := hgg
  obtain ⟨Ag_mod, kg_mod, Ag_exp, kg_exp, Ag_log, kg_log, Ag_above, kg_above, hg_c, hg_mod, hg_exp, hg_log, hg_above⟩ := hgg_
  refine calls_swap ?_
  refine calls_of_W (vs := [.pointer (some ag), .int .i64 d]) [4] Try.func64 rfl rfl rfl rfl ?_
  have hS := St.start w
  unfold V_isDegree at hv
  refine W.seq ?_
  refine W.region ?_
  refine WL.assign rfl rfl ?_
  refine WL.done ?_
  refine W.seq ?_
  refine W.region ?_
  refine WL.move rfl rfl ?_
  refine WL.geqD rfl rfl rfl ?_
  refine WL.move rfl rfl ?_
  by_cases g11 : (1 : Int) ≤ d
  · have hv := hv.1 g11
    rw [decide_eq_true g11]
    refine WL.take rfl ?_
    refine WL.move rfl rfl ?_
    refine WL.take rfl ?_
    refine SL.call hS (ok_field (GFR.ext (GFR.norm hgg) hS.ext) hv) Try.func59 rfl Try.nm59 rfl rfl ?_
    rintro _ _ w12 ⟨r13, r14, x15, A16, k17, rfl, rfl, hv⟩ hGw12 hS
    change St _ _ _ _ [.row 3 1 A16 x15.length k17 (is x15)] at hS
    refine WL.take rfl ?_
    refine WL.field (off := 1) Try.fld24_1 rfl rfl rfl ?_
    refine WL.take rfl ?_
    refine WL.move rfl rfl ?_
    refine WL.take rfl ?_
    obtain ⟨o19, hv⟩ := hv
    refine WL.rem (r := (r14.tmod d)) rfl rfl o19 rfl rfl ?_
    refine WL.take rfl ?_
    refine WL.eqlD rfl rfl rfl ?_
    refine WL.pick rfl rfl rfl ?_
    refine WL.assign rfl rfl ?_
    refine WL.done ?_
    refine W.ret ?_
    refine ⟨_, rfl, Fin.nil ?_⟩
    exact ⟨_, hS.ext, (hS.pick [] rfl).rows, News.of (hS.pick [] rfl).rows rfl, ⟨(decide ((r14.tmod d) = (0 : Int))), rfl, rfl, hv⟩⟩
  · have hv := hv.2 g11
    rw [decide_eq_false g11]
    refine WL.pass rfl rfl rfl ?_
    refine WL.pass rfl rfl rfl ?_
    refine WL.pass rfl rfl rfl ?_
    refine WL.pass rfl rfl rfl ?_
    refine WL.pass rfl rfl rfl ?_
    refine WL.pass rfl rfl rfl ?_
    refine WL.pick rfl rfl rfl ?_
    refine WL.assign rfl rfl ?_
    refine WL.done ?_
    refine W.ret ?_
    refine ⟨_, rfl, Fin.nil ?_⟩
    exact ⟨_, hS.ext, (hS.pick [] rfl).rows, News.of (hS.pick [] rfl).rows rfl, ⟨false, rfl, rfl, hv⟩⟩

def V_frob (Fg : GFv) (x : Int) (k : Int) (Q : Int → Prop) : Prop :=
  V_field Fg (fun q => match q with | (r12, r13, x14) => (r13 ≠ 0) ∧ (∃ J23 : Int → Prop, ((((k.tmod r13) < (0 : Int)) → ((I64 ((k.tmod r13) + r13)) ∧ (J23 ((k.tmod r13) + r13)))) ∧ (¬ ((k.tmod r13) < (0 : Int)) → (J23 (k.tmod r13)))) ∧ ∀ (z22 : Int), (J23 z22 → (∃ (I33 : Int → Int → Prop) (μ34 : Int → Int → Nat), I33 (1 : Int) (0 : Int) ∧ ∀ (z31 : Int) (z32 : Int), (I33 z31 z32 → (((z32 < z22) → ((I64 (z31 * r12)) ∧ ((I64 (z32 + (1 : Int))) ∧ (I33 (z31 * r12) (z32 + (1 : Int)) ∧ μ34 (z31 * r12) (z32 + (1 : Int)) < μ34 z31 z32)))) ∧ (¬ (z32 < z22) → (V_Pow Fg x z31 (fun q => match q with | (r40, r41) => Q r40)))))))))
theorem ok_frob {w : World} {Q : Int → Prop} {Fg : GFv} {x : Int} {k : Int} {ag : Addr} {Bg : Nat} (hgg : GFR Bg w ag Fg) (hv : V_frob Fg x k Q) :
    Calls Try.prog 22 #[.pointer (some ag), .int .i64 x, .int .i64 k] w fun e w' => ∃ v Qr, e = .returned v ∧ w.grownBy w' none ∧ Rows w.heap.size none w' Qr ∧ News w.heap.size Qr ∧ ∃ (r0 : Int), v = .int .i64 r0 ∧ Qr = [] ∧ Q r0 := by
  have hgg_ := hgg
  obtain ⟨Ag_mod, kg_mod, Ag_exp, kg_exp, Ag_log, kg_log, Ag_above, kg_above, hg_c, hg_mod, hg_exp, hg_log, hg_above⟩ := hgg_
  refine calls_swap ?_
  refine calls_of_W (vs := [.pointer (some ag), .int .i64 x, .int .i64 k]) [6] Try.func22 rfl rfl rfl rfl ?_
  have hS := St.start w
  unfold V_frob at hv
  refine W.seq ?_
  refine W.region ?_
  refine WL.assign rfl rfl ?_
  refine WL.done ?_
  refine W.seq ?_
  refine W.region ?_
  refine WL.move rfl rfl ?_
  refine SL.call hS (ok_field (GFR.ext (GFR.norm hgg) hS.ext) hv) Try.func59 rfl Try.nm59 rfl rfl ?_
  rintro _ _ w11 ⟨r12, r13, x14, A15, k16, rfl, rfl, hv⟩ hGw11 hS
  change St _ _ _ _ [.row 3 1 A15 x14.length k16 (is x14)] at hS
  refine SL.alloc (cs := [.int .i64 (0 : Int), .int .i64 (0 : Int), .slice none 0 0]) hS Try.el24 rfl rfl ?_
  intro g18 w19 hS
  refine SL.storeV (cs := [.int .i64 r12, .int .i64 r13, .slice A15 x14.length k16]) 0 hS rfl Try.el24 rfl rfl rfl rfl rfl ?_
  intro w20 hS
  refine WL.done ?_
  refine W.seq ?_
  refine W.region ?_
  refine WL.move rfl rfl ?_
  refine WL.fieldA (off := 1) Try.fla24_1 rfl rfl ?_
  refine WL.load Try.underlying3 rfl rfl (Own.vcells (hS.own (i := 0) rfl) 1 _ rfl) rfl ?_
  obtain ⟨o21, hv⟩ := hv
  refine WL.rem (r := (k.tmod r13)) rfl rfl o21 rfl rfl ?_
  refine WL.assign rfl rfl ?_
  refine WL.done ?_
  refine W.seq ?_
  refine W.seq ?_
  refine W.region ?_
  refine WL.move rfl rfl ?_
  refine WL.lssD rfl rfl rfl ?_
  refine WL.done ?_
  obtain ⟨J23, hv, hk43⟩ := hv
  refine W.cutN (σ := Int) (fun z22 w1 => J23 z22 ∧ St TT w none w1 [.row 24 3 (some ⟨g18, 0, none⟩) 1 1 [.int .i64 r12, .int .i64 r13, .slice A15 x14.length k16], .row 3 1 A15 x14.length k16 (is x14)]) (fun z22 => [(0, .pointer (some ag)), (1, .int .i64 x), (2, .int .i64 z22), (6, .int .i64 (0 : Int)), (7, .pointer (some ⟨g18, 0, none⟩))]) ?_ ?_
  · refine W.cond2 rfl (fun c24 => ?_) (fun c24 => ?_)
    · have hv := hv.1 (of_decide_eq_true c24)
      refine W.region ?_
      refine WL.move rfl rfl ?_
      refine WL.fieldA (off := 1) Try.fla24_1 rfl rfl ?_
      refine WL.load Try.underlying3 rfl rfl (Own.vcells (hS.own (i := 0) rfl) 1 _ rfl) rfl ?_
      obtain ⟨o25, hv⟩ := hv
      refine WL.add (r := ((k.tmod r13) + r13)) rfl rfl (wr o25) rfl ?_
      refine WL.assign rfl rfl ?_
      refine WL.done ?_
      change St _ _ _ _ [.row 24 3 (some ⟨g18, 0, none⟩) 1 1 [.int .i64 r12, .int .i64 r13, .slice A15 x14.length k16], .row 3 1 A15 x14.length k16 (is x14)] at hS
      exact ⟨((k.tmod r13) + r13), ⟨rfl, rfl, rfl, rfl, rfl, trivial⟩, rfl, hv, hS⟩
    · have hv := hv.2 (of_decide_eq_false c24)
      refine W.skip ?_
      change St _ _ _ _ [.row 24 3 (some ⟨g18, 0, none⟩) 1 1 [.int .i64 r12, .int .i64 r13, .slice A15 x14.length k16], .row 3 1 A15 x14.length k16 (is x14)] at hS
      exact ⟨(k.tmod r13), ⟨rfl, rfl, rfl, rfl, rfl, trivial⟩, rfl, hv, hS⟩
  · rintro z22 w26 ⟨hv, hS⟩
    have hv := hk43 z22 hv
    refine W.seq ?_
    refine W.region ?_
    refine WL.assign rfl rfl ?_
    refine WL.done ?_
    refine W.seq ?_
    refine W.seq ?_
    refine W.region ?_
    refine WL.move rfl rfl ?_
    refine WL.move rfl rfl ?_
    refine WL.done ?_
    refine W.block ?_
    obtain ⟨I33, μ34, hv, hk42⟩ := hv
    change St _ _ _ _ [.row 24 3 (some ⟨g18, 0, none⟩) 1 1 [.int .i64 r12, .int .i64 r13, .slice A15 x14.length k16], .row 3 1 A15 x14.length k16 (is x14)] at hS
    refine W.loop (σ := Int × Int) (fun q w1 => match q with | (z31, z32) => I33 z31 z32 ∧ St TT w none w1 [.row 24 3 (some ⟨g18, 0, none⟩) 1 1 [.int .i64 r12, .int .i64 r13, .slice A15 x14.length k16], .row 3 1 A15 x14.length k16 (is x14)]) (fun q => match q with | (z31, z32) => [(0, .pointer (some ag)), (1, .int .i64 x), (6, .int .i64 (0 : Int)), (7, .pointer (some ⟨g18, 0, none⟩)), (8, .int .i64 z31), (23, .int .i64 z22), (24, .int .i64 z32)]) (fun q => match q with | (z31, z32) => μ34 z31 z32) ((1 : Int), (0 : Int)) ⟨hv, hS⟩ ⟨rfl, rfl, rfl, rfl, rfl, rfl, rfl, trivial⟩ ?_
    rintro ⟨z31, z32⟩ w35 ⟨hv, hS⟩
    have hv := hk42 z31 z32 hv
    refine W.seq ?_
    refine W.region ?_
    refine WL.lssD rfl rfl rfl ?_
    refine WL.done ?_
    refine W.seq ?_
    refine W.cond2 rfl (fun c36 => ?_) (fun c36 => ?_)
    · have hv := hv.1 (of_decide_eq_true c36)
      refine W.skip ?_
      refine W.seq ?_
      refine W.block ?_
      refine W.region ?_
      refine WL.move rfl rfl ?_
      refine WL.fieldA (off := 0) Try.fla24_0 rfl rfl ?_
      refine WL.load Try.underlying3 rfl rfl (Own.vcells (hS.own (i := 0) rfl) 0 _ rfl) rfl ?_
      obtain ⟨o37, hv⟩ := hv
      refine WL.mul (r := (z31 * r12)) rfl rfl (wr o37) rfl ?_
      refine WL.assign rfl rfl ?_
      refine WL.done ?_
      refine W.region ?_
      obtain ⟨o38, hv⟩ := hv
      refine WL.add (r := (z32 + (1 : Int))) rfl rfl (wr o38) rfl ?_
      refine WL.move rfl rfl ?_
      refine WL.done ?_
      change St _ _ _ _ [.row 24 3 (some ⟨g18, 0, none⟩) 1 1 [.int .i64 r12, .int .i64 r13, .slice A15 x14.length k16], .row 3 1 A15 x14.length k16 (is x14)] at hS
      exact ⟨((z31 * r12), (z32 + (1 : Int))), ⟨rfl, rfl, rfl, rfl, rfl, rfl, rfl, trivial⟩, hv.2, rfl, hv.1, hS⟩
    · have hv := hv.2 (of_decide_eq_false c36)
      refine W.exit ?_
      refine W.seq ?_
      refine W.region ?_
      refine WL.move rfl rfl ?_
      refine WL.move rfl rfl ?_
      refine WL.move rfl rfl ?_
      refine SL.call hS (ok_Pow (GFR.ext (GFR.norm hgg) hS.ext) hv) Try.func60 rfl Try.nm60 rfl rfl ?_
      rintro _ _ w39 ⟨r40, r41, rfl, rfl, hv⟩ hGw39 hS
      change St _ _ _ _ [.row 24 3 (some ⟨g18, 0, none⟩) 1 1 [.int .i64 r12, .int .i64 r13, .slice A15 x14.length k16], .row 3 1 A15 x14.length k16 (is x14)] at hS
      refine WL.move rfl rfl ?_
      refine WL.extract rfl rfl rfl ?_
      refine WL.extract rfl rfl rfl ?_
      refine WL.assign rfl rfl ?_
      refine WL.assign rfl rfl ?_
      refine WL.done ?_
      refine W.seq ?_
      refine W.region ?_
      refine WL.move rfl rfl ?_
      refine WL.assign rfl rfl ?_
      refine WL.done ?_
      refine W.ret ?_
      refine ⟨_, rfl, Fin.nil ?_⟩
      exact ⟨_, hS.ext, (hS.pick [] rfl).rows, News.of (hS.pick [] rfl).rows rfl, ⟨r40, rfl, rfl, hv⟩⟩

def V_orbit (Fg : GFv) (x : Int) (d : Int) (Q : List Int → Prop) : Prop :=
  V_field Fg (fun q => match q with | (r12, r13, x14) => (d ≠ 0 ∧ I64 (r13.tdiv d)) ∧ ((0 ≤ (r13.tdiv d) ∧ (r13.tdiv d) * 8 ≤ 281474976710656 ∧ (r13.tdiv d) ≤ 281474976710656) ∧ (∃ (I29 : List Int → Int → Prop) (μ30 : List Int → Int → Nat), I29 (List.replicate (r13.tdiv d).toNat (0 : Int)) (0 : Int) ∧ ∀ (x27 : List Int) (z28 : Int), (I29 x27 z28 → (((z28 < (((r13.tdiv d).toNat : Nat) : Int)) → ((I64 (d * z28)) ∧ (V_frob Fg x (d * z28) (fun r35 => (0 ≤ z28 ∧ z28 < ((r13.tdiv d).toNat : Nat)) ∧ ((I64 (z28 + (1 : Int))) ∧ (I29 (si x27 z28 r35) (z28 + (1 : Int)) ∧ μ30 (si x27 z28 r35) (z28 + (1 : Int)) < μ30 x27 z28)))))) ∧ (¬ (z28 < (((r13.tdiv d).toNat : Nat) : Int)) → Q x27))))))
theorem ok_orbit {w : World} {Q : List Int → Prop} {Fg : GFv} {x : Int} {d : Int} {ag : Addr} {Bg : Nat} (hgg : GFR Bg w ag Fg) (hv : V_orbit Fg x d Q) :
    Calls Try.prog 66 #[.pointer (some ag), .int .i64 x, .int .i64 d] w fun e w' => ∃ v Qr, e = .returned v ∧ w.grownBy w' none ∧ Rows w.heap.size none w' Qr ∧ News w.heap.size Qr ∧ ∃ (r0 : List Int) (Ar0 : Option Addr) (cr0 : Nat), v = .slice Ar0 r0.length cr0 ∧ Qr = [.row 3 1 Ar0 r0.length cr0 (is r0)] ∧ Q r0 := by
  have hgg_ := hgg
  obtain ⟨Ag_mod, kg_mod, Ag_exp, kg_exp, Ag_log, kg_log, Ag_above, kg_above, hg_c, hg_mod, hg_exp, hg_log, hg_above⟩ := hgg_
  refine calls_swap ?_
  refine calls_of_W (vs := [.pointer (some ag), .int .i64 x, .int .i64 d]) [6] Try.func66 rfl rfl rfl rfl ?_
  have hS := St.start w
  unfold V_orbit at hv
  refine W.seq ?_
  refine W.region ?_
  refine WL.assign rfl rfl ?_
  refine WL.done ?_
  refine W.seq ?_
  refine W.region ?_
  refine WL.move rfl rfl ?_
  refine SL.call hS (ok_field (GFR.ext (GFR.norm hgg) hS.ext) hv) Try.func59 rfl Try.nm59 rfl rfl ?_
  rintro _ _ w11 ⟨r12, r13, x14, A15, k16, rfl, rfl, hv⟩ hGw11 hS
  change St _ _ _ _ [.row 3 1 A15 x14.length k16 (is x14)] at hS
  refine WL.field (off := 1) Try.fld24_1 rfl rfl rfl ?_
  refine WL.move rfl rfl ?_
  obtain ⟨o18, hv⟩ := hv
  refine WL.quo (r := (r13.tdiv d)) rfl rfl o18.1 (wr o18.2) rfl ?_
  obtain ⟨o19, hv⟩ := hv
  refine SL.make (J := (r13.tdiv d)) hS Try.underlying22 Try.el3 rfl rfl o19 (made_is _) rfl ?_
  intro A20 w21 hS
  refine WL.assign rfl rfl ?_
  refine WL.done ?_
  refine W.seq ?_
  refine W.seq ?_
  refine W.region ?_
  refine WL.move rfl rfl ?_
  refine WL.len Try.underlying22 rfl rfl ?_
  refine WL.move rfl rfl ?_
  refine WL.done ?_
  refine W.block ?_
  obtain ⟨I29, μ30, hv, hk39⟩ := hv
  change St _ _ _ _ [.row 3 1 A20 ((r13.tdiv d).toNat) ((r13.tdiv d).toNat) (is (List.replicate (r13.tdiv d).toNat (0 : Int))), .row 3 1 A15 x14.length k16 (is x14)] at hS
  refine W.loop (σ := List Int × Int) (fun q w1 => match q with | (x27, z28) => I29 x27 z28 ∧ St TT w none w1 [.row 3 1 A20 ((r13.tdiv d).toNat) ((r13.tdiv d).toNat) (is x27), .row 3 1 A15 x14.length k16 (is x14)]) (fun q => match q with | (x27, z28) => [(0, .pointer (some ag)), (1, .int .i64 x), (2, .int .i64 d), (6, .slice none 0 0), (7, .slice A20 ((r13.tdiv d).toNat) ((r13.tdiv d).toNat)), (16, .int .i64 (((r13.tdiv d).toNat : Nat) : Int)), (17, .int .i64 z28)]) (fun q => match q with | (x27, z28) => μ30 x27 z28) (List.replicate (r13.tdiv d).toNat (0 : Int), (0 : Int)) ⟨hv, hS⟩ ⟨rfl, rfl, rfl, rfl, rfl, rfl, rfl, trivial⟩ ?_
  rintro ⟨x27, z28⟩ w31 ⟨hv, hS⟩
  have hv := hk39 x27 z28 hv
  refine W.seq ?_
  refine W.region ?_
  refine WL.lssD rfl rfl rfl ?_
  refine WL.done ?_
  refine W.seq ?_
  refine W.cond2 rfl (fun c32 => ?_) (fun c32 => ?_)
  · have hv := hv.1 (of_decide_eq_true c32)
    refine W.skip ?_
    refine W.seq ?_
    refine W.block ?_
    refine W.seq ?_
    refine W.region ?_
    refine WL.move rfl rfl ?_
    refine WL.assign rfl rfl ?_
    refine WL.done ?_
    refine W.region ?_
    refine WL.move rfl rfl ?_
    refine WL.move rfl rfl ?_
    refine WL.move rfl rfl ?_
    refine WL.move rfl rfl ?_
    refine WL.move rfl rfl ?_
    refine WL.move rfl rfl ?_
    obtain ⟨o33, hv⟩ := hv
    refine WL.mul (r := (d * z28)) rfl rfl (wr o33) rfl ?_
    refine SL.call hS (ok_frob (GFR.ext (GFR.norm hgg) hS.ext) hv) Try.func22 rfl Try.nm22 rfl rfl ?_
    rintro _ _ w34 ⟨r35, rfl, rfl, hv⟩ hGw34 hS
    change St _ _ _ _ [.row 3 1 A20 ((r13.tdiv d).toNat) ((r13.tdiv d).toNat) (is x27), .row 3 1 A15 x14.length k16 (is x14)] at hS
    obtain ⟨o36, hv⟩ := hv
    refine SL.index Try.underlying22 Try.el3 (hS.rd (i := 0) rfl) rfl rfl o36 rfl ?_
    refine SL.store (cs' := is (si x27 z28 r35)) 0 z28.toNat hS rfl Try.el3 rfl rfl rfl (is_lt (hS.rd (i := 0) rfl) o36) (is_set _ _ _) ?_
    intro w37 hS
    refine WL.done ?_
    refine W.region ?_
    obtain ⟨o38, hv⟩ := hv
    refine WL.add (r := (z28 + (1 : Int))) rfl rfl (wr o38) rfl ?_
    refine WL.move rfl rfl ?_
    refine WL.done ?_
    change St _ _ _ _ [.row 3 1 A20 ((r13.tdiv d).toNat) ((r13.tdiv d).toNat) (is (si x27 z28 r35)), .row 3 1 A15 x14.length k16 (is x14)] at hS
    exact ⟨(si x27 z28 r35, (z28 + (1 : Int))), ⟨rfl, rfl, rfl, rfl, rfl, rfl, rfl, trivial⟩, hv.2, rfl, hv.1, hS⟩
  · have hv := hv.2 (of_decide_eq_false c32)
    refine W.exit ?_
    refine W.seq ?_
    refine W.region ?_
    refine WL.move rfl rfl ?_
    refine WL.assign rfl rfl ?_
    refine WL.done ?_
    refine W.ret ?_
    have hm0 := (hS.rd (i := 0) rfl).ilen
    have hS := hS.relen (i := 0) rfl hm0.symm
    refine ⟨_, rfl, Fin.nil ?_⟩
    exact ⟨_, hS.ext, (hS.pick [0] rfl).rows, News.of (hS.pick [0] rfl).rows rfl, ⟨x27, A20, (r13.tdiv d).toNat, (by first | (rw [hm0]; done) | (rw [hm0]; rfl)), rfl, hv⟩⟩

def V_conj (Fg : GFv) (x : Int) (d : Int) (Q : List Int × Int → Prop) : Prop :=
  V_isDegree Fg d (fun r12 => (((!r12) = true) → (Q (([] : List Int), (6 : Int)))) ∧ ((!r12) = false → (V_orbit Fg x d (fun x15 => ∃ J20 : Int → Prop, (∃ (I24 : Int → Prop) (μ25 : Int → Nat), I24 (1 : Int) ∧ ∀ (z23 : Int), (I24 z23 → (((z23 < ((x15.length : Nat) : Int)) → ((0 ≤ z23 ∧ z23 < (x15.length : Nat)) ∧ ((0 ≤ (0 : Int) ∧ (0 : Int) < (x15.length : Nat)) ∧ ((((gi x15 z23) ≠ (gi x15 (0 : Int))) → ((I64 (z23 + (1 : Int))) ∧ (I24 (z23 + (1 : Int)) ∧ μ25 (z23 + (1 : Int)) < μ25 z23))) ∧ (¬ ((gi x15 z23) ≠ (gi x15 (0 : Int))) → J20 z23))))) ∧ (¬ (z23 < ((x15.length : Nat) : Int)) → J20 z23)))) ∧ ∀ (z19 : Int), (J20 z19 → ((0 ≤ z19 ∧ z19 ≤ (x15.length : Nat)) ∧ (Q (x15.take z19.toNat, (0 : Int)))))))))
theorem ok_conj {w : World} {Q : List Int × Int → Prop} {Fg : GFv} {x : Int} {d : Int} {ag : Addr} {Bg : Nat} (hgg : GFR Bg w ag Fg) (hv : V_conj Fg x d Q) :
    Calls Try.prog 37 #[.pointer (some ag), .int .i64 x, .int .i64 d] w fun e w' => ∃ v Qr, e = .returned v ∧ w.grownBy w' none ∧ Rows w.heap.size none w' Qr ∧ News w.heap.size Qr ∧ ∃ (r0 : List Int) (r1 : Int) (Ar0 : Option Addr) (cr0 : Nat), v = .tuple #[.slice Ar0 r0.length cr0, .int .i64 r1] ∧ Qr = [.row 3 1 Ar0 r0.length cr0 (is r0)] ∧ Q (r0, r1) := by
  have hgg_ := hgg
  obtain ⟨Ag_mod, kg_mod, Ag_exp, kg_exp, Ag_log, kg_log, Ag_above, kg_above, hg_c, hg_mod, hg_exp, hg_log, hg_above⟩ := hgg_
  refine calls_swap ?_
  refine calls_of_W (vs := [.pointer (some ag), .int .i64 x, .int .i64 d]) [6, 7] Try.func37 rfl rfl rfl rfl ?_
  have hS := St.start w
  unfold V_conj at hv
  refine W.seq ?_
  refine W.region ?_
  refine WL.assign rfl rfl ?_
  refine WL.assign rfl rfl ?_
  refine WL.done ?_
  refine W.seq ?_
  refine W.seq ?_
  refine W.region ?_
  refine WL.move rfl rfl ?_
  refine WL.move rfl rfl ?_
  refine SL.call hS (ok_isDegree (GFR.ext (GFR.norm hgg) hS.ext) hv) Try.func64 rfl Try.nm64 rfl rfl ?_
  rintro _ _ w11 ⟨r12, rfl, rfl, hv⟩ hGw11 hS
  change St _ _ _ _ [] at hS
  refine WL.not rfl rfl ?_
  refine WL.done ?_
  refine W.cond2 rfl (fun c13 => ?_) (fun c13 => ?_)
  · have hv := hv.1 (c13)
    refine W.seq ?_
    refine W.region ?_
    refine WL.assign rfl rfl ?_
    refine WL.assign rfl rfl ?_
    refine WL.done ?_
    refine W.ret ?_
    have hS := hS.nil (e := 3) (z := 1)
    refine ⟨_, rfl, Fin.nil ?_⟩
    exact ⟨_, hS.ext, (hS.pick [0] rfl).rows, News.of (hS.pick [0] rfl).rows rfl, ⟨([] : List Int), (6 : Int), none, 0, rfl, rfl, hv⟩⟩
  · have hv := hv.2 (c13)
    refine W.skip ?_
    refine W.seq ?_
    refine W.region ?_
    refine WL.move rfl rfl ?_
    refine WL.move rfl rfl ?_
    refine WL.move rfl rfl ?_
    refine SL.call hS (ok_orbit (GFR.ext (GFR.norm hgg) hS.ext) hv) Try.func66 rfl Try.nm66 rfl rfl ?_
    rintro _ _ w14 ⟨x15, A16, k17, rfl, rfl, hv⟩ hGw14 hS
    change St _ _ _ _ [.row 3 1 A16 x15.length k17 (is x15)] at hS
    refine WL.assign rfl rfl ?_
    refine WL.done ?_
    refine W.seq ?_
    refine W.region ?_
    refine WL.assign rfl rfl ?_
    refine WL.done ?_
    refine W.seq ?_
    obtain ⟨J20, hv, hk65⟩ := hv
    refine W.cutN (σ := Int) (fun z19 w1 => J20 z19 ∧ St TT w none w1 [.row 3 1 A16 x15.length k17 (is x15)]) (fun z19 => [(6, .slice none 0 0), (7, .int .i64 (0 : Int)), (8, .slice A16 x15.length k17), (9, .int .i64 z19)]) ?_ ?_
    · refine W.block ?_
      obtain ⟨I24, μ25, hv, hk62⟩ := hv
      change St _ _ _ _ [.row 3 1 A16 x15.length k17 (is x15)] at hS
      refine W.loop (σ := Int) (fun z23 w1 => I24 z23 ∧ St TT w none w1 [.row 3 1 A16 x15.length k17 (is x15)]) (fun z23 => [(6, .slice none 0 0), (7, .int .i64 (0 : Int)), (8, .slice A16 x15.length k17), (9, .int .i64 z23)]) (fun z23 => μ25 z23) (1 : Int) ⟨hv, hS⟩ ⟨rfl, rfl, rfl, rfl, trivial⟩ ?_
      rintro z23 w26 ⟨hv, hS⟩
      have hv := hk62 z23 hv
      refine W.seq ?_
      refine W.seq ?_
      by_cases g27 : z23 < ((x15.length : Nat) : Int)
      · have hv := hv.1 g27
        obtain ⟨o36, hv⟩ := hv
        obtain ⟨o40, hv⟩ := hv
        have hS0 := hS
        refine W.drawX 14 (fun _ => false) (fun _ => none) [⟨[], [9], true⟩, ⟨[], [8], true⟩, ⟨[1], [], true⟩, ⟨[0, 2], [], true⟩, ⟨[3], [], true⟩, ⟨[4], [8], true⟩, ⟨[4], [9], true⟩, ⟨[4, 5, 6], [], true⟩, ⟨[4, 7], [], false⟩, ⟨[4], [8], true⟩, ⟨[4, 9], [], true⟩, ⟨[4, 10], [], false⟩, ⟨[4, 8, 11], [], true⟩, ⟨[4, 12], [], true⟩] [[(9, .int .i64 z23)], [(8, .slice A16 x15.length k17)], [], [], [], [(8, .slice A16 x15.length k17)], [(9, .int .i64 z23)], [], [], [(8, .slice A16 x15.length k17)], [], [], [], []] (fun iQ => [fun v _ => v = .int .i64 z23, fun v _ => v = .slice A16 x15.length k17, fun v _ => v = .int .i64 ((x15.length : Nat) : Int), fun v _ => v = .bool true, fun v _ => v = .bool true, fun v _ => v = .slice A16 x15.length k17, fun v _ => v = .int .i64 z23, fun v _ => v = .pointer (some ((adOf A16).add z23.toNat)), fun v _ => v = .int .i64 (gi x15 z23), fun v _ => v = .slice A16 x15.length k17, fun v _ => v = .pointer (some ((adOf A16).add ((0 : Int).toNat))), fun v _ => v = .int .i64 (gi x15 (0 : Int)), fun v _ => v = .bool (decide ((gi x15 z23) ≠ (gi x15 (0 : Int)))), fun v _ => v = .bool (decide ((gi x15 z23) ≠ (gi x15 (0 : Int))))].getD iQ (fun _ _ => True)) Try.mixed (by kernel_rfl) ?_ (by kernel_rfl) ?_ ?_
        · refine Vs_monoT _ ?_
          intro VQ hVQ vQ wQ1 wQ2 hQ1 hQ2
          simp only [List.mem_cons, List.not_mem_nil, or_false] at hVQ
          rcases hVQ with rfl | rfl | rfl | rfl | rfl | rfl | rfl | rfl | rfl | rfl | rfl | rfl | rfl | rfl
          · exact hQ1
          · exact hQ1
          · exact hQ1
          · exact hQ1
          · exact hQ1
          · exact hQ1
          · exact hQ1
          · exact hQ1
          · exact hQ1
          · exact hQ1
          · exact hQ1
          · exact hQ1
          · exact hQ1
          · exact hQ1
        · refine ⟨⟨rfl, ⟨rfl, trivial⟩, ?_⟩, ⟨rfl, ⟨rfl, trivial⟩, ?_⟩, ⟨rfl, trivial, ?_⟩, ⟨rfl, trivial, ?_⟩, ⟨rfl, trivial, ?_⟩, ⟨rfl, ⟨rfl, trivial⟩, ?_⟩, ⟨rfl, ⟨rfl, trivial⟩, ?_⟩, ⟨rfl, trivial, ?_⟩, ⟨rfl, trivial, ?_⟩, ⟨rfl, ⟨rfl, trivial⟩, ?_⟩, ⟨rfl, trivial, ?_⟩, ⟨rfl, trivial, ?_⟩, ⟨rfl, trivial, ?_⟩, ⟨rfl, trivial, ?_⟩, trivial⟩
          · intro w28 hE
            intro RR
            refine WL.move rfl rfl ?_
            exact WL.done ⟨_, rfl, rfl, rfl, (fun h => absurd h (by decide)), (fun j h => by cases h)⟩
          · intro w29 hE
            intro RR
            refine WL.move rfl rfl ?_
            exact WL.done ⟨_, rfl, rfl, rfl, (fun h => absurd h (by decide)), (fun j h => by cases h)⟩
          · intro w30 hE
            rintro _ rfl
            intro RR
            refine WL.len Try.underlying22 rfl rfl ?_
            exact WL.done ⟨_, rfl, rfl, rfl, (fun h => absurd h (by decide)), (fun j h => by cases h)⟩
          · intro w31 hE
            rintro _ rfl
            rintro _ rfl
            intro RR
            refine WL.lssD rfl rfl rfl ?_; rw [decide_eq_true g27]
            exact WL.done ⟨_, rfl, rfl, rfl, (fun h => absurd h (by decide)), (fun j h => by cases h)⟩
          · intro w32 hE
            rintro _ rfl
            intro RR
            refine WL.move rfl rfl ?_
            exact WL.done ⟨_, rfl, rfl, rfl, (fun h => absurd h (by decide)), (fun j h => by cases h)⟩
          · intro w33 hE
            rintro _ rfl
            intro RR
            refine WL.take rfl ?_
            refine WL.move rfl rfl ?_
            exact WL.done ⟨_, rfl, rfl, rfl, (fun h => absurd h (by decide)), (fun j h => by cases h)⟩
          · intro w34 hE
            rintro _ rfl
            intro RR
            refine WL.take rfl ?_
            refine WL.move rfl rfl ?_
            exact WL.done ⟨_, rfl, rfl, rfl, (fun h => absurd h (by decide)), (fun j h => by cases h)⟩
          · intro w35 hE
            rintro _ rfl
            rintro _ rfl
            rintro _ rfl
            intro RR
            refine WL.take rfl ?_
            refine SL.index Try.underlying22 Try.el3 (hS.rd (i := 0) rfl) rfl rfl o36 rfl ?_
            exact WL.done ⟨_, rfl, rfl, rfl, (fun h => absurd h (by decide)), (fun j h => by cases h)⟩
          · intro w37 hE
            have hE := hE rfl
            have hS := hS.grow hE
            rintro _ rfl
            rintro _ rfl
            intro RR
            refine WL.take rfl ?_
            refine WL.load Try.underlying3 rfl rfl (Rd.gi (hS.rd (i := 0) rfl) o36) rfl ?_
            exact WL.done ⟨_, rfl, ext_refl _, rfl, (fun h => absurd h (by decide)), (fun j h => by cases h)⟩
          · intro w38 hE
            rintro _ rfl
            intro RR
            refine WL.take rfl ?_
            refine WL.move rfl rfl ?_
            exact WL.done ⟨_, rfl, rfl, rfl, (fun h => absurd h (by decide)), (fun j h => by cases h)⟩
          · intro w39 hE
            rintro _ rfl
            rintro _ rfl
            intro RR
            refine WL.take rfl ?_
            refine SL.index Try.underlying22 Try.el3 (hS.rd (i := 0) rfl) rfl rfl o40 rfl ?_
            exact WL.done ⟨_, rfl, rfl, rfl, (fun h => absurd h (by decide)), (fun j h => by cases h)⟩
          · intro w41 hE
            have hE := hE rfl
            have hS := hS.grow hE
            rintro _ rfl
            rintro _ rfl
            intro RR
            refine WL.take rfl ?_
            refine WL.load Try.underlying3 rfl rfl (Rd.gi (hS.rd (i := 0) rfl) o40) rfl ?_
            exact WL.done ⟨_, rfl, ext_refl _, rfl, (fun h => absurd h (by decide)), (fun j h => by cases h)⟩
          · intro w42 hE
            rintro _ rfl
            rintro _ rfl
            rintro _ rfl
            intro RR
            refine WL.take rfl ?_
            refine WL.neqD rfl rfl rfl ?_
            exact WL.done ⟨_, rfl, rfl, rfl, (fun h => absurd h (by decide)), (fun j h => by cases h)⟩
          · intro w43 hE
            rintro _ rfl
            rintro _ rfl
            intro RR
            refine WL.pick rfl rfl rfl ?_
            exact WL.done ⟨_, rfl, rfl, rfl, (fun h => absurd h (by decide)), (fun j h => by cases h)⟩
        · intro vals w44 hT hVs hAp hCp
          have hS := hS.grow hT
          have hv0 : vals 0 = _ := hVs 0 (by decide)
          have hv1 : vals 1 = _ := hVs 1 (by decide)
          have hv2 : vals 2 = _ := hVs 2 (by decide)
          have hv3 : vals 3 = _ := hVs 3 (by decide)
          have hv4 : vals 4 = _ := hVs 4 (by decide)
          have hv5 : vals 5 = _ := hVs 5 (by decide)
          have hv6 : vals 6 = _ := hVs 6 (by decide)
          have hv7 : vals 7 = _ := hVs 7 (by decide)
          have hv8 : vals 8 = _ := hVs 8 (by decide)
          have hv9 : vals 9 = _ := hVs 9 (by decide)
          have hv10 : vals 10 = _ := hVs 10 (by decide)
          have hv11 : vals 11 = _ := hVs 11 (by decide)
          have hv12 : vals 12 = _ := hVs 12 (by decide)
          have hv13 : vals 13 = _ := hVs 13 (by decide)
          rw [show (List.filterMap (fun i => Option.map (fun t => (t, vals i)) (dstAt _ i)) (List.range _)) = [(18, .int .i64 z23), (19, .slice A16 x15.length k17), (20, .int .i64 ((x15.length : Nat) : Int)), (21, .bool true), (22, .bool true), (23, .slice A16 x15.length k17), (24, .int .i64 z23), (25, .pointer (some ((adOf A16).add z23.toNat))), (26, .int .i64 (gi x15 z23)), (27, .slice A16 x15.length k17), (28, .pointer (some ((adOf A16).add ((0 : Int).toNat)))), (29, .int .i64 (gi x15 (0 : Int))), (30, .bool (decide ((gi x15 z23) ≠ (gi x15 (0 : Int))))), (31, .bool (decide ((gi x15 z23) ≠ (gi x15 (0 : Int)))))] from by
            show [(18, vals 0), (19, vals 1), (20, vals 2), (21, vals 3), (22, vals 4), (23, vals 5), (24, vals 6), (25, vals 7), (26, vals 8), (27, vals 9), (28, vals 10), (29, vals 11), (30, vals 12), (31, vals 13)] = _
            rw [hv0, hv1, hv2, hv3, hv4, hv5, hv6, hv7, hv8, hv9, hv10, hv11, hv12, hv13]]
          refine WA.done (by decide +kernel) ?_
          refine W.cond2 rfl (fun c45 => ?_) (fun c45 => ?_)
          · have hv := hv.1 (of_decide_eq_true c45)
            refine W.skip ?_
            refine W.block ?_
            refine W.region ?_
            refine WL.move rfl rfl ?_
            obtain ⟨o46, hv⟩ := hv
            refine WL.add (r := (z23 + (1 : Int))) rfl rfl (wr o46) rfl ?_
            refine WL.assign rfl rfl ?_
            refine WL.done ?_
            change St _ _ _ _ [.row 3 1 A16 x15.length k17 (is x15)] at hS
            exact ⟨(z23 + (1 : Int)), ⟨rfl, rfl, rfl, rfl, trivial⟩, hv.2, rfl, hv.1, hS⟩
          · have hv := hv.2 (of_decide_eq_false c45)
            refine W.exit ?_
            change St _ _ _ _ [.row 3 1 A16 x15.length k17 (is x15)] at hS
            exact ⟨z23, ⟨rfl, rfl, rfl, rfl, trivial⟩, rfl, hv, hS⟩
      · have hv := hv.2 g27
        have hS0 := hS
        refine W.drawX 14 (fun _ => false) (fun _ => none) [⟨[], [9], true⟩, ⟨[], [8], true⟩, ⟨[1], [], true⟩, ⟨[0, 2], [], true⟩, ⟨[3], [], true⟩, ⟨[4], [8], true⟩, ⟨[4], [9], true⟩, ⟨[4, 5, 6], [], true⟩, ⟨[4, 7], [], false⟩, ⟨[4], [8], true⟩, ⟨[4, 9], [], true⟩, ⟨[4, 10], [], false⟩, ⟨[4, 8, 11], [], true⟩, ⟨[4, 12], [], true⟩] [[(9, .int .i64 z23)], [(8, .slice A16 x15.length k17)], [], [], [], [(8, .slice A16 x15.length k17)], [(9, .int .i64 z23)], [], [], [(8, .slice A16 x15.length k17)], [], [], [], []] (fun iQ => [fun v _ => v = .int .i64 z23, fun v _ => v = .slice A16 x15.length k17, fun v _ => v = .int .i64 ((x15.length : Nat) : Int), fun v _ => v = .bool false, fun v _ => v = .bool false, fun v _ => v = undef, fun v _ => v = undef, fun v _ => v = undef, fun v _ => v = undef, fun v _ => v = undef, fun v _ => v = undef, fun v _ => v = undef, fun v _ => v = undef, fun v _ => v = .bool false].getD iQ (fun _ _ => True)) Try.mixed (by kernel_rfl) ?_ (by kernel_rfl) ?_ ?_
        · refine Vs_monoT _ ?_
          intro VQ hVQ vQ wQ1 wQ2 hQ1 hQ2
          simp only [List.mem_cons, List.not_mem_nil, or_false] at hVQ
          rcases hVQ with rfl | rfl | rfl | rfl | rfl | rfl | rfl | rfl | rfl | rfl | rfl | rfl | rfl | rfl
          · exact hQ1
          · exact hQ1
          · exact hQ1
          · exact hQ1
          · exact hQ1
          · exact hQ1
          · exact hQ1
          · exact hQ1
          · exact hQ1
          · exact hQ1
          · exact hQ1
          · exact hQ1
          · exact hQ1
          · exact hQ1
        · refine ⟨⟨rfl, ⟨rfl, trivial⟩, ?_⟩, ⟨rfl, ⟨rfl, trivial⟩, ?_⟩, ⟨rfl, trivial, ?_⟩, ⟨rfl, trivial, ?_⟩, ⟨rfl, trivial, ?_⟩, ⟨rfl, ⟨rfl, trivial⟩, ?_⟩, ⟨rfl, ⟨rfl, trivial⟩, ?_⟩, ⟨rfl, trivial, ?_⟩, ⟨rfl, trivial, ?_⟩, ⟨rfl, ⟨rfl, trivial⟩, ?_⟩, ⟨rfl, trivial, ?_⟩, ⟨rfl, trivial, ?_⟩, ⟨rfl, trivial, ?_⟩, ⟨rfl, trivial, ?_⟩, trivial⟩
          · intro w47 hE
            intro RR
            refine WL.move rfl rfl ?_
            exact WL.done ⟨_, rfl, rfl, rfl, (fun h => absurd h (by decide)), (fun j h => by cases h)⟩
          · intro w48 hE
            intro RR
            refine WL.move rfl rfl ?_
            exact WL.done ⟨_, rfl, rfl, rfl, (fun h => absurd h (by decide)), (fun j h => by cases h)⟩
          · intro w49 hE
            rintro _ rfl
            intro RR
            refine WL.len Try.underlying22 rfl rfl ?_
            exact WL.done ⟨_, rfl, rfl, rfl, (fun h => absurd h (by decide)), (fun j h => by cases h)⟩
          · intro w50 hE
            rintro _ rfl
            rintro _ rfl
            intro RR
            refine WL.lssD rfl rfl rfl ?_; rw [decide_eq_false g27]
            exact WL.done ⟨_, rfl, rfl, rfl, (fun h => absurd h (by decide)), (fun j h => by cases h)⟩
          · intro w51 hE
            rintro _ rfl
            intro RR
            refine WL.move rfl rfl ?_
            exact WL.done ⟨_, rfl, rfl, rfl, (fun h => absurd h (by decide)), (fun j h => by cases h)⟩
          · intro w52 hE
            rintro _ rfl
            intro RR
            refine WL.pass rfl rfl rfl ?_
            exact WL.done ⟨_, rfl, rfl, rfl, (fun h => absurd h (by decide)), (fun j h => by cases h)⟩
          · intro w53 hE
            rintro _ rfl
            intro RR
            refine WL.pass rfl rfl rfl ?_
            exact WL.done ⟨_, rfl, rfl, rfl, (fun h => absurd h (by decide)), (fun j h => by cases h)⟩
          · intro w54 hE
            rintro _ rfl
            rintro _ rfl
            rintro _ rfl
            intro RR
            refine WL.pass rfl rfl rfl ?_
            exact WL.done ⟨_, rfl, rfl, rfl, (fun h => absurd h (by decide)), (fun j h => by cases h)⟩
          · intro w55 hE
            have hE := hE rfl
            have hS := hS.grow hE
            rintro _ rfl
            rintro _ rfl
            intro RR
            refine WL.pass rfl rfl rfl ?_
            exact WL.done ⟨_, rfl, ext_refl _, rfl, (fun h => absurd h (by decide)), (fun j h => by cases h)⟩
          · intro w56 hE
            rintro _ rfl
            intro RR
            refine WL.pass rfl rfl rfl ?_
            exact WL.done ⟨_, rfl, rfl, rfl, (fun h => absurd h (by decide)), (fun j h => by cases h)⟩
          · intro w57 hE
            rintro _ rfl
            rintro _ rfl
            intro RR
            refine WL.pass rfl rfl rfl ?_
            exact WL.done ⟨_, rfl, rfl, rfl, (fun h => absurd h (by decide)), (fun j h => by cases h)⟩
          · intro w58 hE
            have hE := hE rfl
            have hS := hS.grow hE
            rintro _ rfl
            rintro _ rfl
            intro RR
            refine WL.pass rfl rfl rfl ?_
            exact WL.done ⟨_, rfl, ext_refl _, rfl, (fun h => absurd h (by decide)), (fun j h => by cases h)⟩
          · intro w59 hE
            rintro _ rfl
            rintro _ rfl
            rintro _ rfl
            intro RR
            refine WL.pass rfl rfl rfl ?_
            exact WL.done ⟨_, rfl, rfl, rfl, (fun h => absurd h (by decide)), (fun j h => by cases h)⟩
          · intro w60 hE
            rintro _ rfl
            rintro _ rfl
            intro RR
            refine WL.pick rfl rfl rfl ?_
            exact WL.done ⟨_, rfl, rfl, rfl, (fun h => absurd h (by decide)), (fun j h => by cases h)⟩
        · intro vals w61 hT hVs hAp hCp
          have hS := hS.grow hT
          have hv0 : vals 0 = _ := hVs 0 (by decide)
          have hv1 : vals 1 = _ := hVs 1 (by decide)
          have hv2 : vals 2 = _ := hVs 2 (by decide)
          have hv3 : vals 3 = _ := hVs 3 (by decide)
          have hv4 : vals 4 = _ := hVs 4 (by decide)
          have hv5 : vals 5 = _ := hVs 5 (by decide)
          have hv6 : vals 6 = _ := hVs 6 (by decide)
          have hv7 : vals 7 = _ := hVs 7 (by decide)
          have hv8 : vals 8 = _ := hVs 8 (by decide)
          have hv9 : vals 9 = _ := hVs 9 (by decide)
          have hv10 : vals 10 = _ := hVs 10 (by decide)
          have hv11 : vals 11 = _ := hVs 11 (by decide)
          have hv12 : vals 12 = _ := hVs 12 (by decide)
          have hv13 : vals 13 = _ := hVs 13 (by decide)
          rw [show (List.filterMap (fun i => Option.map (fun t => (t, vals i)) (dstAt _ i)) (List.range _)) = [(18, .int .i64 z23), (19, .slice A16 x15.length k17), (20, .int .i64 ((x15.length : Nat) : Int)), (21, .bool false), (22, .bool false), (23, undef), (24, undef), (25, undef), (26, undef), (27, undef), (28, undef), (29, undef), (30, undef), (31, .bool false)] from by
            show [(18, vals 0), (19, vals 1), (20, vals 2), (21, vals 3), (22, vals 4), (23, vals 5), (24, vals 6), (25, vals 7), (26, vals 8), (27, vals 9), (28, vals 10), (29, vals 11), (30, vals 12), (31, vals 13)] = _
            rw [hv0, hv1, hv2, hv3, hv4, hv5, hv6, hv7, hv8, hv9, hv10, hv11, hv12, hv13]]
          refine WA.done (by decide +kernel) ?_
          refine W.condF rfl ?_
          refine W.exit ?_
          change St _ _ _ _ [.row 3 1 A16 x15.length k17 (is x15)] at hS
          exact ⟨z23, ⟨rfl, rfl, rfl, rfl, trivial⟩, rfl, hv, hS⟩
    · rintro z19 w63 ⟨hv, hS⟩
      have hv := hk65 z19 hv
      refine W.seq ?_
      refine W.region ?_
      refine WL.move rfl rfl ?_
      refine WL.move rfl rfl ?_
      obtain ⟨o64, hv⟩ := hv
      refine SL.slTo Try.underlying22 Try.el3 (hS.rd (i := 0) rfl) rfl rfl o64 rfl (x15.take z19.toNat).length (pre_len (hS.rd (i := 0) rfl) o64) ?_
      refine WL.assign rfl rfl ?_
      refine WL.assign rfl rfl ?_
      refine WL.done ?_
      refine W.ret ?_
      have hq0 := (hS.rd (i := 0) rfl).ilen
      have hS := hS.shrink (i := 0) (k := z19.toNat) rfl (by omega)
      have hl0 : (x15.take z19.toNat).length = z19.toNat := by rw [List.length_take]; omega
      refine ⟨_, rfl, Fin.nil ?_⟩
      exact ⟨_, hS.ext, (hS.pick [0] rfl).rows, News.of (hS.pick [0] rfl).rows rfl, ⟨x15.take z19.toNat, (0 : Int), A16, k17, (by first | (rw [hl0]; done) | (rw [hl0]; rfl)), rfl, hv⟩⟩

def V_tdegree (Fg : GFv) (x : Int) (Q : Int → Prop) : Prop :=
  V_conj Fg x (1 : Int) (fun q => match q with | (x12, r16) => Q ((x12.length : Nat) : Int))
theorem ok_tdegree {w : World} {Q : Int → Prop} {Fg : GFv} {x : Int} {ag : Addr} {Bg : Nat} (hgg : GFR Bg w ag Fg) (hv : V_tdegree Fg x Q) :
    Calls Try.prog 35 #[.pointer (some ag), .int .i64 x] w fun e w' => ∃ v Qr, e = .returned v ∧ w.grownBy w' none ∧ Rows w.heap.size none w' Qr ∧ News w.heap.size Qr ∧ ∃ (r0 : Int), v = .int .i64 r0 ∧ Qr = [] ∧ Q r0 := by
  have hgg_ := hgg
  obtain ⟨Ag_mod, kg_mod, Ag_exp, kg_exp, Ag_log, kg_log, Ag_above, kg_above, hg_c, hg_mod, hg_exp, hg_log, hg_above⟩ := hgg_
  refine calls_swap ?_
  refine calls_of_W (vs := [.pointer (some ag), .int .i64 x]) [4] Try.func35 rfl rfl rfl rfl ?_
  have hS := St.start w
  unfold V_tdegree at hv
  refine W.seq ?_
  refine W.region ?_
  refine WL.assign rfl rfl ?_
  refine WL.done ?_
  refine W.seq ?_
  refine W.region ?_
  refine WL.move rfl rfl ?_
  refine WL.move rfl rfl ?_
  refine SL.call hS (ok_conj (GFR.ext (GFR.norm hgg) hS.ext) hv) Try.func37 rfl Try.nm37 rfl rfl ?_
  rintro _ _ w11 ⟨x12, r16, A13, k14, rfl, rfl, hv⟩ hGw11 hS
  change St _ _ _ _ [.row 3 1 A13 x12.length k14 (is x12)] at hS
  refine WL.move rfl rfl ?_
  refine WL.extract rfl rfl rfl ?_
  refine WL.extract rfl rfl rfl ?_
  refine WL.assign rfl rfl ?_
  refine WL.assign rfl rfl ?_
  refine WL.done ?_
  refine W.seq ?_
  refine W.region ?_
  refine WL.move rfl rfl ?_
  refine WL.len Try.underlying22 rfl rfl ?_
  refine WL.assign rfl rfl ?_
  refine WL.done ?_
  refine W.ret ?_
  refine ⟨_, rfl, Fin.nil ?_⟩
  exact ⟨_, hS.ext, (hS.pick [] rfl).rows, News.of (hS.pick [] rfl).rows rfl, ⟨((x12.length : Nat) : Int), rfl, rfl, hv⟩⟩

def V_subfield (Fg : GFv) (d : Int) (Q : List Int × Int → Prop) : Prop :=
  V_isDegree Fg d (fun r16 => (((!r16) = true) → (Q (([] : List Int), (6 : Int)))) ∧ ((!r16) = false → (V_elements Fg (fun _ => I64 Fg.q ∧ ∃ (I35 : Nat → List Int → Prop), I35 0 ([] : List Int) ∧ (∀ i22 : Nat, i22 < Fg.q.toNat → ∀ (x31 : List Int), I35 i22 x31 → (V_frob Fg (i22 : Int) d (fun r38 => ((r38 = (i22 : Int)) → ((((x31.length : Nat) + (1 : Nat) : Int) * 8 ≤ 140737488355328) ∧ (I35 (i22 + 1) (x31 ++ ([(i22 : Int)] : List Int))))) ∧ (¬ (r38 = (i22 : Int)) → (I35 (i22 + 1) x31))))) ∧ (∀ (x31 : List Int), I35 Fg.q.toNat x31 → (Q (x31, (0 : Int))))))))
theorem ok_subfield {w : World} {Q : List Int × Int → Prop} {Fg : GFv} {d : Int} {ag : Addr} {Bg : Nat} (hgg : GFR Bg w ag Fg) (hv : V_subfield Fg d Q) :
    Calls Try.prog 27 #[.pointer (some ag), .int .i64 d] w fun e w' => ∃ v Qr, e = .returned v ∧ w.grownBy w' none ∧ Rows w.heap.size none w' Qr ∧ News w.heap.size Qr ∧ ∃ (r0 : List Int) (r1 : Int) (Ar0 : Option Addr) (cr0 : Nat), v = .tuple #[.slice Ar0 r0.length cr0, .int .i64 r1] ∧ Qr = [.row 3 1 Ar0 r0.length cr0 (is r0)] ∧ Q (r0, r1) := by
  have hgg_ := hgg
  obtain ⟨Ag_mod, kg_mod, Ag_exp, kg_exp, Ag_log, kg_log, Ag_above, kg_above, hg_c, hg_mod, hg_exp, hg_log, hg_above⟩ := hgg_
  refine calls_swap ?_
  refine calls_of_W (vs := [.pointer (some ag), .int .i64 d]) [4, 5] Try.func27 rfl rfl rfl rfl ?_
  have hS := St.start w
  unfold V_subfield at hv
  refine W.seq ?_
  refine W.region ?_
  refine SL.box (z := 1) (cs := [.pointer (some ag)]) hS rfl rfl rfl rfl ?_
  intro g11 w12 hS
  refine SL.box (z := 1) (cs := [.int .i64 d]) hS rfl rfl rfl rfl ?_
  intro g13 w14 hS
  refine WL.assign rfl rfl ?_
  refine WL.assign rfl rfl ?_
  refine WL.done ?_
  refine W.seq ?_
  refine W.seq ?_
  refine W.region ?_
  refine WL.load Try.underlying26 rfl rfl (Own.vcells (hS.own (i := 1) rfl) 0 _ rfl) rfl ?_
  refine WL.load Try.underlying3 rfl rfl (Own.vcells (hS.own (i := 0) rfl) 0 _ rfl) rfl ?_
  refine SL.call hS (ok_isDegree (GFR.ext (GFR.norm hgg) hS.ext) hv) Try.func64 rfl Try.nm64 rfl rfl ?_
  rintro _ _ w15 ⟨r16, rfl, rfl, hv⟩ hGw15 hS
  change St _ _ _ _ [.row 3 1 (some ⟨g13, 0, none⟩) 1 1 [.int .i64 d], .row 26 1 (some ⟨g11, 0, none⟩) 1 1 [.pointer (some ag)]] at hS
  refine WL.not rfl rfl ?_
  refine WL.done ?_
  refine W.cond2 rfl (fun c17 => ?_) (fun c17 => ?_)
  · have hv := hv.1 (c17)
    refine W.seq ?_
    refine W.region ?_
    refine WL.assign rfl rfl ?_
    refine WL.assign rfl rfl ?_
    refine WL.done ?_
    refine W.ret ?_
    have hS := hS.nil (e := 3) (z := 1)
    refine ⟨_, rfl, Fin.nil ?_⟩
    exact ⟨_, hS.ext, (hS.pick [0] rfl).rows, News.of (hS.pick [0] rfl).rows rfl, ⟨([] : List Int), (6 : Int), none, 0, rfl, rfl, hv⟩⟩
  · have hv := hv.2 (c17)
    refine W.skip ?_
    refine W.seq ?_
    refine W.region ?_
    refine SL.alloc (cs := [.slice none 0 0]) hS Try.el22 rfl rfl ?_
    intro g18 w19 hS
    refine WL.done ?_
    refine W.seq ?_
    refine W.seq ?_
    refine W.region ?_
    refine WL.load Try.underlying26 rfl rfl (Own.vcells (hS.own (i := 2) rfl) 0 _ rfl) rfl ?_
    refine SL.call hS (ok_elements (GFR.ext (GFR.norm hgg) hS.ext) hv) Try.func65 rfl Try.nm65 rfl rfl ?_
    rintro _ _ w20 ⟨g21, rfl, rfl, hv⟩ hGw20 hS
    change St _ _ _ _ [.row 26 1 (some ⟨g21, 0, none⟩) 1 1 [.pointer (some ag)], .row 22 1 (some ⟨g18, 0, none⟩) 1 1 [.slice none 0 0], .row 3 1 (some ⟨g13, 0, none⟩) 1 1 [.int .i64 d], .row 26 1 (some ⟨g11, 0, none⟩) 1 1 [.pointer (some ag)]] at hS
    refine WL.done ?_
    refine W.block ?_
    obtain ⟨o52, hv⟩ := hv
    obtain ⟨I35, hv, hk50, hd51⟩ := hv
    have hS := hS.nil (e := 3) (z := 1)
    have hm0 : 0 = ([] : List Int).length := (hS.rd (i := 0) rfl).ilen.symm
    have hS := hS.relen (i := 0) rfl hm0
    change St _ _ _ _ [.row 3 1 none ([] : List Int).length 0 (is ([] : List Int)), .row 26 1 (some ⟨g21, 0, none⟩) 1 1 [.pointer (some ag)], .row 22 1 (some ⟨g18, 0, none⟩) 1 1 [.slice none ([] : List Int).length 0], .row 3 1 (some ⟨g13, 0, none⟩) 1 1 [.int .i64 d], .row 26 1 (some ⟨g11, 0, none⟩) 1 1 [.pointer (some ag)]] at hS
    refine SR.range (σ := List Int × Option Addr × Nat) (fun i q => match q with | (x31, A32, k33) => I35 i x31) (fun q => match q with | (x31, A32, k33) => [.row 3 1 A32 x31.length k33 (is x31), .row 26 1 (some ⟨g21, 0, none⟩) 1 1 [.pointer (some ag)], .row 22 1 (some ⟨g18, 0, none⟩) 1 1 [.slice A32 x31.length k33], .row 3 1 (some ⟨g13, 0, none⟩) 1 1 [.int .i64 d], .row 26 1 (some ⟨g11, 0, none⟩) 1 1 [.pointer (some ag)]]) (fun _ _ => False) (fun vs => [(2, .pointer (some ⟨g11, 0, none⟩)), (3, .pointer (some ⟨g13, 0, none⟩)), (4, .slice none 0 0), (5, .int .i64 (0 : Int)), (6, .pointer (some ⟨g18, 0, none⟩)), (7, vs.getD 0 undef)]) (([] : List Int), none, 0) hS hv (fun q => by obtain ⟨x31, A32, k33⟩ := q; exact trivial) rfl Try.func88 rfl Try.nm88 (elements_seq o52 (Own.vcells (hS.own (i := 1) rfl) 0 _ rfl) (Rd.at_ (hS.ro hg_c) (j := 3) rfl)) (Below.refl _ _) (fun _ _ _ h => by rw [h]; rfl) (fun _ _ _ _ _ h _ _ => h) (by decide) (fun _ _ _ _ _ => trivial) ?_ ?_ ?_ ?_
    · intro lq vsq W1q hlq
      match vsq, hlq with
      | [a0], _ =>
        refine W.region ?_
        refine WL.assign rfl rfl ?_
        refine WL.done ?_
        exact ⟨rfl, rfl, ⟨rfl, rfl, rfl, rfl, rfl, rfl, trivial⟩⟩
    · rintro lq i22 _ ⟨x31, A32, k33⟩ w36 hi rfl hI hS
      have hv := hk50 i22 hi x31 hI
      refine W.block ?_
      refine W.seq ?_
      refine W.region ?_
      refine WL.load Try.underlying26 rfl rfl (Own.vcells (hS.own (i := 4) rfl) 0 _ rfl) rfl ?_
      refine WL.move rfl rfl ?_
      refine WL.load Try.underlying3 rfl rfl (Own.vcells (hS.own (i := 3) rfl) 0 _ rfl) rfl ?_
      refine SL.call hS (ok_frob (GFR.ext (GFR.norm hgg) hS.ext) hv) Try.func22 rfl Try.nm22 rfl rfl ?_
      rintro _ _ w37 ⟨r38, rfl, rfl, hv⟩ hGw37 hS
      change St _ _ _ _ [.row 3 1 A32 x31.length k33 (is x31), .row 26 1 (some ⟨g21, 0, none⟩) 1 1 [.pointer (some ag)], .row 22 1 (some ⟨g18, 0, none⟩) 1 1 [.slice A32 x31.length k33], .row 3 1 (some ⟨g13, 0, none⟩) 1 1 [.int .i64 d], .row 26 1 (some ⟨g11, 0, none⟩) 1 1 [.pointer (some ag)]] at hS
      refine WL.move rfl rfl ?_
      refine WL.eqlD rfl rfl rfl ?_
      refine WL.done ?_
      refine W.cond2 rfl (fun c39 => ?_) (fun c39 => ?_)
      · have hv := hv.1 (of_decide_eq_true c39)
        refine W.region ?_
        refine WL.load Try.underlying22 rfl rfl (Own.vcells (hS.own (i := 2) rfl) 0 _ rfl) rfl ?_
        refine WL.move rfl rfl ?_
        refine SL.lit1 (vs := is ([(i22 : Int)] : List Int)) hS Try.underlying22 Try.el3 rfl rfl rfl rfl (is_one _) rfl ?_
        intro A40 w41 hS
        obtain ⟨o43, hv⟩ := hv
        refine SL.append (cs := is x31) (cs' := is ([(i22 : Int)] : List Int)) 1 ((x31 ++ ([(i22 : Int)] : List Int)).length) (is (x31 ++ ([(i22 : Int)] : List Int))) hS rfl Try.underlying22 Try.el3 (hS.rd (i := 0) rfl) (is_one _) rfl rfl (apk o43).1 (apk o43).2 (is_ap (hS.rd (i := 1) rfl) (hS.rd (i := 0) rfl)) (is_append _ _) rfl ?_
        intro A44 k45 w46 hS
        refine SL.store (cs' := [.slice A44 ((x31 ++ ([(i22 : Int)] : List Int)).length) k45]) 3 0 hS rfl Try.el22 rfl rfl rfl (of_ble rfl) rfl ?_
        intro w47 hS
        refine WL.done ?_
        have hS := hS.pick [1, 2, 3, 4, 5] rfl
        change St _ _ _ _ [.row 3 1 A44 (x31 ++ ([(i22 : Int)] : List Int)).length k45 (is (x31 ++ ([(i22 : Int)] : List Int))), .row 26 1 (some ⟨g21, 0, none⟩) 1 1 [.pointer (some ag)], .row 22 1 (some ⟨g18, 0, none⟩) 1 1 [.slice A44 (x31 ++ ([(i22 : Int)] : List Int)).length k45], .row 3 1 (some ⟨g13, 0, none⟩) 1 1 [.int .i64 d], .row 26 1 (some ⟨g11, 0, none⟩) 1 1 [.pointer (some ag)]] at hS
        exact ⟨(x31 ++ ([(i22 : Int)] : List Int), A44, k45), hv, hS⟩
      · have hv := hv.2 (of_decide_eq_false c39)
        refine W.skip ?_
        change St _ _ _ _ [.row 3 1 A32 x31.length k33 (is x31), .row 26 1 (some ⟨g21, 0, none⟩) 1 1 [.pointer (some ag)], .row 22 1 (some ⟨g18, 0, none⟩) 1 1 [.slice A32 x31.length k33], .row 3 1 (some ⟨g13, 0, none⟩) 1 1 [.int .i64 d], .row 26 1 (some ⟨g11, 0, none⟩) 1 1 [.pointer (some ag)]] at hS
        exact ⟨(x31, A32, k33), hv, hS⟩
    · rintro D48 ⟨x31, A32, k33⟩ w49 hv hD hS
      have hv := hd51 x31 hv
      refine W.seq ?_
      refine W.region ?_
      refine WL.load Try.underlying22 rfl rfl (Own.vcells (hS.own (i := 3) rfl) 0 _ rfl) rfl ?_
      refine WL.assign rfl rfl ?_
      refine WL.assign rfl rfl ?_
      refine WL.done ?_
      refine W.ret ?_
      have hS := hS.pick [0, 1] rfl
      obtain ⟨hDD48, hS⟩ := hS.taken trivial
      refine ⟨_, rfl, Fin.cons hDD48 (Fin.nil ?_)⟩
      exact ⟨_, hS.ext, (hS.pick [0] rfl).rows, News.of (hS.pick [0] rfl).rows rfl, ⟨x31, (0 : Int), A32, k33, rfl, rfl, hv⟩⟩
    · rintro _ e _ _ _ hv; exact hv.elim

def V_trace (Fg : GFv) (x : Int) (d : Int) (Q : Int × Int → Prop) : Prop :=
  V_isDegree Fg d (fun r12 => (((!r12) = true) → (Q ((0 : Int), (6 : Int)))) ∧ ((!r12) = false → (V_orbit Fg x d (fun x15 => V_Sum Fg x15 (fun r20 => Q (r20, (0 : Int)))))))
theorem ok_trace {w : World} {Q : Int × Int → Prop} {Fg : GFv} {x : Int} {d : Int} {ag : Addr} {Bg : Nat} (hgg : GFR Bg w ag Fg) (hv : V_trace Fg x d Q) :
    Calls Try.prog 46 #[.pointer (some ag), .int .i64 x, .int .i64 d] w fun e w' => ∃ v Qr, e = .returned v ∧ w.grownBy w' none ∧ Rows w.heap.size none w' Qr ∧ News w.heap.size Qr ∧ ∃ (r0 : Int) (r1 : Int), v = .tuple #[.int .i64 r0, .int .i64 r1] ∧ Qr = [] ∧ Q (r0, r1) := by
  have hgg_ := hgg
  obtain ⟨Ag_mod, kg_mod, Ag_exp, kg_exp, Ag_log, kg_log, Ag_above, kg_above, hg_c, hg_mod, hg_exp, hg_log, hg_above⟩ := hgg_
  refine calls_swap ?_
  refine calls_of_W (vs := [.pointer (some ag), .int .i64 x, .int .i64 d]) [6, 7] Try.func46 rfl rfl rfl rfl ?_
  have hS := St.start w
  unfold V_trace at hv
  refine W.seq ?_
  refine W.region ?_
  refine WL.assign rfl rfl ?_
  refine WL.assign rfl rfl ?_
  refine WL.done ?_
  refine W.seq ?_
  refine W.seq ?_
  refine W.region ?_
  refine WL.move rfl rfl ?_
  refine WL.move rfl rfl ?_
  refine SL.call hS (ok_isDegree (GFR.ext (GFR.norm hgg) hS.ext) hv) Try.func64 rfl Try.nm64 rfl rfl ?_
  rintro _ _ w11 ⟨r12, rfl, rfl, hv⟩ hGw11 hS
  change St _ _ _ _ [] at hS
  refine WL.not rfl rfl ?_
  refine WL.done ?_
  refine W.cond2 rfl (fun c13 => ?_) (fun c13 => ?_)
  · have hv := hv.1 (c13)
    refine W.seq ?_
    refine W.region ?_
    refine WL.assign rfl rfl ?_
    refine WL.assign rfl rfl ?_
    refine WL.done ?_
    refine W.ret ?_
    refine ⟨_, rfl, Fin.nil ?_⟩
    exact ⟨_, hS.ext, (hS.pick [] rfl).rows, News.of (hS.pick [] rfl).rows rfl, ⟨(0 : Int), (6 : Int), rfl, rfl, hv⟩⟩
  · have hv := hv.2 (c13)
    refine W.skip ?_
    refine W.seq ?_
    refine W.region ?_
    refine WL.move rfl rfl ?_
    refine WL.move rfl rfl ?_
    refine WL.move rfl rfl ?_
    refine WL.move rfl rfl ?_
    refine SL.call hS (ok_orbit (GFR.ext (GFR.norm hgg) hS.ext) hv) Try.func66 rfl Try.nm66 rfl rfl ?_
    rintro _ _ w14 ⟨x15, A16, k17, rfl, rfl, hv⟩ hGw14 hS
    change St _ _ _ _ [.row 3 1 A16 x15.length k17 (is x15)] at hS
    refine SL.call hS (ok_Sum (GFR.ext (GFR.norm hgg) hS.ext) (hS.rd (i := 0) rfl) hv) Try.func76 rfl Try.nm76 rfl rfl ?_
    rintro _ _ w19 ⟨r20, rfl, rfl, hv⟩ hGw19 hS
    change St _ _ _ _ [.row 3 1 A16 x15.length k17 (is x15)] at hS
    refine WL.assign rfl rfl ?_
    refine WL.assign rfl rfl ?_
    refine WL.done ?_
    refine W.ret ?_
    refine ⟨_, rfl, Fin.nil ?_⟩
    exact ⟨_, hS.ext, (hS.pick [] rfl).rows, News.of (hS.pick [] rfl).rows rfl, ⟨r20, (0 : Int), rfl, rfl, hv⟩⟩

def V_norm (Fg : GFv) (x : Int) (d : Int) (Q : Int × Int → Prop) : Prop :=
  V_isDegree Fg d (fun r12 => (((!r12) = true) → (Q ((0 : Int), (6 : Int)))) ∧ ((!r12) = false → (V_orbit Fg x d (fun x15 => ∃ (I25 : Int → Int → Prop) (μ26 : Int → Int → Nat), I25 (1 : Int) (0 : Int) ∧ ∀ (z23 : Int) (z24 : Int), (I25 z23 z24 → (((z24 < ((x15.length : Nat) : Int)) → ((0 ≤ z24 ∧ z24 < (x15.length : Nat)) ∧ (V_Mul Fg z23 (gi x15 z24) (fun r31 => (I64 (z24 + (1 : Int))) ∧ (I25 r31 (z24 + (1 : Int)) ∧ μ26 r31 (z24 + (1 : Int)) < μ26 z23 z24))))) ∧ (¬ (z24 < ((x15.length : Nat) : Int)) → (Q (z23, (0 : Int))))))))))
theorem ok_norm {w : World} {Q : Int × Int → Prop} {Fg : GFv} {x : Int} {d : Int} {ag : Addr} {Bg : Nat} (hgg : GFR Bg w ag Fg) (hv : V_norm Fg x d Q) :
    Calls Try.prog 48 #[.pointer (some ag), .int .i64 x, .int .i64 d] w fun e w' => ∃ v Qr, e = .returned v ∧ w.grownBy w' none ∧ Rows w.heap.size none w' Qr ∧ News w.heap.size Qr ∧ ∃ (r0 : Int) (r1 : Int), v = .tuple #[.int .i64 r0, .int .i64 r1] ∧ Qr = [] ∧ Q (r0, r1) := by
  have hgg_ := hgg
  obtain ⟨Ag_mod, kg_mod, Ag_exp, kg_exp, Ag_log, kg_log, Ag_above, kg_above, hg_c, hg_mod, hg_exp, hg_log, hg_above⟩ := hgg_
  refine calls_swap ?_
  refine calls_of_W (vs := [.pointer (some ag), .int .i64 x, .int .i64 d]) [6, 7] Try.func48 rfl rfl rfl rfl ?_
  have hS := St.start w
  unfold V_norm at hv
  refine W.seq ?_
  refine W.region ?_
  refine WL.assign rfl rfl ?_
  refine WL.assign rfl rfl ?_
  refine WL.done ?_
  refine W.seq ?_
  refine W.seq ?_
  refine W.region ?_
  refine WL.move rfl rfl ?_
  refine WL.move rfl rfl ?_
  refine SL.call hS (ok_isDegree (GFR.ext (GFR.norm hgg) hS.ext) hv) Try.func64 rfl Try.nm64 rfl rfl ?_
  rintro _ _ w11 ⟨r12, rfl, rfl, hv⟩ hGw11 hS
  change St _ _ _ _ [] at hS
  refine WL.not rfl rfl ?_
  refine WL.done ?_
  refine W.cond2 rfl (fun c13 => ?_) (fun c13 => ?_)
  · have hv := hv.1 (c13)
    refine W.seq ?_
    refine W.region ?_
    refine WL.assign rfl rfl ?_
    refine WL.assign rfl rfl ?_
    refine WL.done ?_
    refine W.ret ?_
    refine ⟨_, rfl, Fin.nil ?_⟩
    exact ⟨_, hS.ext, (hS.pick [] rfl).rows, News.of (hS.pick [] rfl).rows rfl, ⟨(0 : Int), (6 : Int), rfl, rfl, hv⟩⟩
  · have hv := hv.2 (c13)
    refine W.skip ?_
    refine W.seq ?_
    refine W.region ?_
    refine WL.assign rfl rfl ?_
    refine WL.done ?_
    refine W.seq ?_
    refine W.seq ?_
    refine W.region ?_
    refine WL.move rfl rfl ?_
    refine WL.move rfl rfl ?_
    refine WL.move rfl rfl ?_
    refine SL.call hS (ok_orbit (GFR.ext (GFR.norm hgg) hS.ext) hv) Try.func66 rfl Try.nm66 rfl rfl ?_
    rintro _ _ w14 ⟨x15, A16, k17, rfl, rfl, hv⟩ hGw14 hS
    change St _ _ _ _ [.row 3 1 A16 x15.length k17 (is x15)] at hS
    refine WL.len Try.underlying22 rfl rfl ?_
    refine WL.move rfl rfl ?_
    refine WL.done ?_
    refine W.block ?_
    obtain ⟨I25, μ26, hv, hk33⟩ := hv
    change St _ _ _ _ [.row 3 1 A16 x15.length k17 (is x15)] at hS
    refine W.loop (σ := Int × Int) (fun q w1 => match q with | (z23, z24) => I25 z23 z24 ∧ St TT w none w1 [.row 3 1 A16 x15.length k17 (is x15)]) (fun q => match q with | (z23, z24) => [(0, .pointer (some ag)), (6, .int .i64 (0 : Int)), (7, .int .i64 (0 : Int)), (8, .int .i64 z23), (18, .slice A16 x15.length k17), (19, .int .i64 ((x15.length : Nat) : Int)), (20, .int .i64 z24)]) (fun q => match q with | (z23, z24) => μ26 z23 z24) ((1 : Int), (0 : Int)) ⟨hv, hS⟩ ⟨rfl, rfl, rfl, rfl, rfl, rfl, rfl, trivial⟩ ?_
    rintro ⟨z23, z24⟩ w27 ⟨hv, hS⟩
    have hv := hk33 z23 z24 hv
    refine W.seq ?_
    refine W.region ?_
    refine WL.lssD rfl rfl rfl ?_
    refine WL.done ?_
    refine W.seq ?_
    refine W.cond2 rfl (fun c28 => ?_) (fun c28 => ?_)
    · have hv := hv.1 (of_decide_eq_true c28)
      refine W.skip ?_
      refine W.seq ?_
      refine W.block ?_
      refine W.seq ?_
      refine W.region ?_
      obtain ⟨o29, hv⟩ := hv
      refine SL.index Try.underlying22 Try.el3 (hS.rd (i := 0) rfl) rfl rfl o29 rfl ?_
      refine WL.load Try.underlying3 rfl rfl (Rd.gi (hS.rd (i := 0) rfl) o29) rfl ?_
      refine WL.assign rfl rfl ?_
      refine WL.done ?_
      refine W.region ?_
      refine WL.move rfl rfl ?_
      refine WL.move rfl rfl ?_
      refine WL.move rfl rfl ?_
      refine SL.call hS (ok_Mul (GFR.ext (GFR.norm hgg) hS.ext) hv) Try.func77 rfl Try.nm77 rfl rfl ?_
      rintro _ _ w30 ⟨r31, rfl, rfl, hv⟩ hGw30 hS
      change St _ _ _ _ [.row 3 1 A16 x15.length k17 (is x15)] at hS
      refine WL.assign rfl rfl ?_
      refine WL.done ?_
      refine W.region ?_
      obtain ⟨o32, hv⟩ := hv
      refine WL.add (r := (z24 + (1 : Int))) rfl rfl (wr o32) rfl ?_
      refine WL.move rfl rfl ?_
      refine WL.done ?_
      change St _ _ _ _ [.row 3 1 A16 x15.length k17 (is x15)] at hS
      exact ⟨(r31, (z24 + (1 : Int))), ⟨rfl, rfl, rfl, rfl, rfl, rfl, rfl, trivial⟩, hv.2, rfl, hv.1, hS⟩
    · have hv := hv.2 (of_decide_eq_false c28)
      refine W.exit ?_
      refine W.seq ?_
      refine W.region ?_
      refine WL.move rfl rfl ?_
      refine WL.assign rfl rfl ?_
      refine WL.assign rfl rfl ?_
      refine WL.done ?_
      refine W.ret ?_
      refine ⟨_, rfl, Fin.nil ?_⟩
      exact ⟨_, hS.ext, (hS.pick [] rfl).rows, News.of (hS.pick [] rfl).rows rfl, ⟨z23, (0 : Int), rfl, rfl, hv⟩⟩

end Go.Proofs.Ythjpminlkcklgaa
set_option linter.unusedSimpArgs false
set_option linter.unusedVariables false
namespace Go.Proofs.Ythjpminlkcklgaa
open Go.RowKit
def V_tdivides (Pf : Int) (Mf : Int) (mf : List Int) (d : Int) (Q : Bool → Prop) : Prop :=
  (((1 : Int) ≤ d) → (((d ≤ Mf) → ((d ≠ 0) ∧ (Q (decide ((Mf.tmod d) = (0 : Int)))))) ∧ (¬ (d ≤ Mf) → Q false))) ∧ (¬ ((1 : Int) ≤ d) → Q false)
theorem ok_tdivides {w : World} {Q : Bool → Prop} {Pf : Int} {Mf : Int} {mf : List Int} {d : Int} {Bf : Nat} {Af : Option Addr} {nf kf : Nat} (hf : Rd Bf w 1 Af nf kf (is mf)) (hv : V_tdivides Pf Mf mf d Q) :
    Calls Try.prog 28 #[.agg #[.int .i64 Pf, .int .i64 Mf, .slice Af nf kf], .int .i64 d] w fun e w' => ∃ v Qr, e = .returned v ∧ w.grownBy w' none ∧ Rows w.heap.size none w' Qr ∧ News w.heap.size Qr ∧ ∃ (r0 : Bool), v = .bool r0 ∧ Qr = [] ∧ Q r0 := by
  have hnf := hf.ilen
  subst hnf
  refine calls_swap ?_
  refine calls_of_W (vs := [.agg #[.int .i64 Pf, .int .i64 Mf, .slice Af mf.length kf], .int .i64 d]) [4] Try.func28 rfl rfl rfl rfl ?_
  have hS := St.start w
  unfold V_tdivides at hv
  refine W.seq ?_
  refine W.region ?_
  refine SL.box (z := 3) (cs := [.int .i64 Pf, .int .i64 Mf, .slice Af mf.length kf]) hS rfl rfl rfl rfl ?_
  intro g11 w12 hS
  refine WL.assign rfl rfl ?_
  refine WL.done ?_
  refine W.seq ?_
  refine W.region ?_
  refine WL.move rfl rfl ?_
  refine WL.geqD rfl rfl rfl ?_
  refine WL.move rfl rfl ?_
  by_cases g13 : (1 : Int) ≤ d
  · have hv := hv.1 g13
    rw [decide_eq_true g13]
    refine WL.take rfl ?_
    refine WL.move rfl rfl ?_
    refine WL.take rfl ?_
    refine WL.fieldA (off := 1) Try.fla24_1 rfl rfl ?_
    refine WL.take rfl ?_
    refine WL.load Try.underlying3 rfl rfl (Own.vcells (hS.own (i := 0) rfl) 1 _ rfl) rfl ?_
    refine WL.take rfl ?_
    refine WL.leqD rfl rfl rfl ?_
    refine WL.pick rfl rfl rfl ?_
    refine WL.move rfl rfl ?_
    by_cases g14 : d ≤ Mf
    · have hv := hv.1 g14
      rw [decide_eq_true g14]
      refine WL.take rfl ?_
      refine WL.fieldA (off := 1) Try.fla24_1 rfl rfl ?_
      refine WL.take rfl ?_
      refine WL.load Try.underlying3 rfl rfl (Own.vcells (hS.own (i := 0) rfl) 1 _ rfl) rfl ?_
      refine WL.take rfl ?_
      refine WL.move rfl rfl ?_
      refine WL.take rfl ?_
      obtain ⟨o15, hv⟩ := hv
      refine WL.rem (r := (Mf.tmod d)) rfl rfl o15 rfl rfl ?_
      refine WL.take rfl ?_
      refine WL.eqlD rfl rfl rfl ?_
      refine WL.pick rfl rfl rfl ?_
      refine WL.assign rfl rfl ?_
      refine WL.done ?_
      refine W.ret ?_
      refine ⟨_, rfl, Fin.nil ?_⟩
      exact ⟨_, hS.ext, (hS.pick [] rfl).rows, News.of (hS.pick [] rfl).rows rfl, ⟨(decide ((Mf.tmod d) = (0 : Int))), rfl, rfl, hv⟩⟩
    · have hv := hv.2 g14
      rw [decide_eq_false g14]
      refine WL.pass rfl rfl rfl ?_
      refine WL.pass rfl rfl rfl ?_
      refine WL.pass rfl rfl rfl ?_
      refine WL.pass rfl rfl rfl ?_
      refine WL.pass rfl rfl rfl ?_
      refine WL.pick rfl rfl rfl ?_
      refine WL.assign rfl rfl ?_
      refine WL.done ?_
      refine W.ret ?_
      refine ⟨_, rfl, Fin.nil ?_⟩
      exact ⟨_, hS.ext, (hS.pick [] rfl).rows, News.of (hS.pick [] rfl).rows rfl, ⟨false, rfl, rfl, hv⟩⟩
  · have hv := hv.2 g13
    rw [decide_eq_false g13]
    refine WL.pass rfl rfl rfl ?_
    refine WL.pass rfl rfl rfl ?_
    refine WL.pass rfl rfl rfl ?_
    refine WL.pass rfl rfl rfl ?_
    refine WL.pick rfl rfl rfl ?_
    refine WL.move rfl rfl ?_
    refine WL.pass rfl rfl rfl ?_
    refine WL.pass rfl rfl rfl ?_
    refine WL.pass rfl rfl rfl ?_
    refine WL.pass rfl rfl rfl ?_
    refine WL.pass rfl rfl rfl ?_
    refine WL.pick rfl rfl rfl ?_
    refine WL.assign rfl rfl ?_
    refine WL.done ?_
    refine W.ret ?_
    refine ⟨_, rfl, Fin.nil ?_⟩
    exact ⟨_, hS.ext, (hS.pick [] rfl).rows, News.of (hS.pick [] rfl).rows rfl, ⟨false, rfl, rfl, hv⟩⟩

end Go.Proofs.Ythjpminlkcklgaa
set_option linter.unusedSimpArgs false
set_option linter.unusedVariables false
namespace Go.Proofs.Ythjpminlkcklgaa
open Go.RowKit
def V_lsame (l : List Int) (o : List Int) (Q : Bool → Prop) : Prop :=
  ((((l.length : Nat) : Int) ≠ ((o.length : Nat) : Int)) → Q false) ∧ (¬ (((l.length : Nat) : Int) ≠ ((o.length : Nat) : Int)) → (∃ (I15 : Int → Prop) (μ16 : Int → Nat), I15 (0 : Int) ∧ ∀ (z14 : Int), (I15 z14 → (((z14 < ((l.length : Nat) : Int)) → ((0 ≤ z14 ∧ z14 < (l.length : Nat)) ∧ ((0 ≤ z14 ∧ z14 < (o.length : Nat)) ∧ ((((gi l z14) ≠ (gi o z14)) → Q false) ∧ (¬ ((gi l z14) ≠ (gi o z14)) → ((I64 (z14 + (1 : Int))) ∧ (I15 (z14 + (1 : Int)) ∧ μ16 (z14 + (1 : Int)) < μ16 z14))))))) ∧ (¬ (z14 < ((l.length : Nat) : Int)) → Q true)))))
theorem ok_lsame {w : World} {Q : Bool → Prop} {l : List Int} {o : List Int} {Bl : Nat} {Al : Option Addr} {nl kl : Nat} (hl : Rd Bl w 1 Al nl kl (is l)) {Bo : Nat} {Ao : Option Addr} {no ko : Nat} (ho : Rd Bo w 1 Ao no ko (is o)) (hv : V_lsame l o Q) :
    Calls Try.prog 29 #[.slice Al nl kl, .slice Ao no ko] w fun e w' => ∃ v Qr, e = .returned v ∧ w.grownBy w' none ∧ Rows w.heap.size none w' Qr ∧ News w.heap.size Qr ∧ ∃ (r0 : Bool), v = .bool r0 ∧ Qr = [] ∧ Q r0 := by
  have hnl := hl.ilen
  subst hnl
  have hno := ho.ilen
  subst hno
  refine calls_swap ?_
  refine calls_of_W (vs := [.slice Al l.length kl, .slice Ao o.length ko]) [4] Try.func29 rfl rfl rfl rfl ?_
  have hS := St.start w
  unfold V_lsame at hv
  refine W.seq ?_
  refine W.region ?_
  refine WL.assign rfl rfl ?_
  refine WL.done ?_
  refine W.seq ?_
  refine W.seq ?_
  refine W.region ?_
  refine WL.move rfl rfl ?_
  refine WL.len Try.underlying22 rfl rfl ?_
  refine WL.move rfl rfl ?_
  refine WL.len Try.underlying22 rfl rfl ?_
  refine WL.neqD rfl rfl rfl ?_
  refine WL.done ?_
  refine W.cond2 rfl (fun c11 => ?_) (fun c11 => ?_)
  · have hv := hv.1 (of_decide_eq_true c11)
    refine W.seq ?_
    refine W.region ?_
    refine WL.assign rfl rfl ?_
    refine WL.done ?_
    refine W.ret ?_
    refine ⟨_, rfl, Fin.nil ?_⟩
    exact ⟨_, hS.ext, (hS.pick [] rfl).rows, News.of (hS.pick [] rfl).rows rfl, ⟨false, rfl, rfl, hv⟩⟩
  · have hv := hv.2 (of_decide_eq_false c11)
    refine W.skip ?_
    refine W.seq ?_
    refine W.seq ?_
    refine W.region ?_
    refine WL.move rfl rfl ?_
    refine WL.len Try.underlying22 rfl rfl ?_
    refine WL.move rfl rfl ?_
    refine WL.done ?_
    refine W.block ?_
    obtain ⟨I15, μ16, hv, hk33⟩ := hv
    change St _ _ _ _ [] at hS
    refine W.loop (σ := Int) (fun z14 w1 => I15 z14 ∧ St TT w none w1 []) (fun z14 => [(0, .slice Al l.length kl), (1, .slice Ao o.length ko), (4, .bool false), (12, .int .i64 ((l.length : Nat) : Int)), (13, .int .i64 z14)]) (fun z14 => μ16 z14) (0 : Int) ⟨hv, hS⟩ ⟨rfl, rfl, rfl, rfl, rfl, trivial⟩ ?_
    rintro z14 w17 ⟨hv, hS⟩
    have hv := hk33 z14 hv
    refine W.seq ?_
    refine W.region ?_
    refine WL.lssD rfl rfl rfl ?_
    refine WL.done ?_
    refine W.seq ?_
    refine W.cond2 rfl (fun c18 => ?_) (fun c18 => ?_)
    · have hv := hv.1 (of_decide_eq_true c18)
      refine W.skip ?_
      refine W.seq ?_
      refine W.block ?_
      refine W.seq ?_
      refine W.region ?_
      refine WL.move rfl rfl ?_
      refine WL.assign rfl rfl ?_
      refine WL.done ?_
      refine W.seq ?_
      obtain ⟨o22, hv⟩ := hv
      obtain ⟨o27, hv⟩ := hv
      have hS0 := hS
      refine W.drawX 9 (fun _ => false) (fun _ => none) [⟨[], [0], true⟩, ⟨[], [5], true⟩, ⟨[0, 1], [], true⟩, ⟨[2], [], false⟩, ⟨[], [1], true⟩, ⟨[], [5], true⟩, ⟨[4, 5], [], true⟩, ⟨[6], [], false⟩, ⟨[3, 7], [], true⟩] [[(0, .slice Al l.length kl)], [(5, .int .i64 z14)], [], [], [(1, .slice Ao o.length ko)], [(5, .int .i64 z14)], [], [], []] (fun iQ => [fun v _ => v = .slice Al l.length kl, fun v _ => v = .int .i64 z14, fun v _ => v = .pointer (some ((adOf Al).add z14.toNat)), fun v _ => v = .int .i64 (gi l z14), fun v _ => v = .slice Ao o.length ko, fun v _ => v = .int .i64 z14, fun v _ => v = .pointer (some ((adOf Ao).add z14.toNat)), fun v _ => v = .int .i64 (gi o z14), fun v _ => v = .bool (decide ((gi l z14) ≠ (gi o z14)))].getD iQ (fun _ _ => True)) Try.mixed (by kernel_rfl) ?_ (by kernel_rfl) ?_ ?_
      · refine Vs_monoT _ ?_
        intro VQ hVQ vQ wQ1 wQ2 hQ1 hQ2
        simp only [List.mem_cons, List.not_mem_nil, or_false] at hVQ
        rcases hVQ with rfl | rfl | rfl | rfl | rfl | rfl | rfl | rfl | rfl
        · exact hQ1
        · exact hQ1
        · exact hQ1
        · exact hQ1
        · exact hQ1
        · exact hQ1
        · exact hQ1
        · exact hQ1
        · exact hQ1
      · refine ⟨⟨rfl, ⟨rfl, trivial⟩, ?_⟩, ⟨rfl, ⟨rfl, trivial⟩, ?_⟩, ⟨rfl, trivial, ?_⟩, ⟨rfl, trivial, ?_⟩, ⟨rfl, ⟨rfl, trivial⟩, ?_⟩, ⟨rfl, ⟨rfl, trivial⟩, ?_⟩, ⟨rfl, trivial, ?_⟩, ⟨rfl, trivial, ?_⟩, ⟨rfl, trivial, ?_⟩, trivial⟩
        · intro w19 hE
          intro RR
          refine WL.move rfl rfl ?_
          exact WL.done ⟨_, rfl, rfl, rfl, (fun h => absurd h (by decide)), (fun j h => by cases h)⟩
        · intro w20 hE
          intro RR
          refine WL.move rfl rfl ?_
          exact WL.done ⟨_, rfl, rfl, rfl, (fun h => absurd h (by decide)), (fun j h => by cases h)⟩
        · intro w21 hE
          rintro _ rfl
          rintro _ rfl
          intro RR
          refine SL.index Try.underlying22 Try.el3 (hS.ro hl) rfl rfl o22 rfl ?_
          exact WL.done ⟨_, rfl, rfl, rfl, (fun h => absurd h (by decide)), (fun j h => by cases h)⟩
        · intro w23 hE
          have hE := hE rfl
          have hS := hS.grow hE
          rintro _ rfl
          intro RR
          refine WL.load Try.underlying3 rfl rfl (Rd.gi (hS.ro hl) o22) rfl ?_
          exact WL.done ⟨_, rfl, ext_refl _, rfl, (fun h => absurd h (by decide)), (fun j h => by cases h)⟩
        · intro w24 hE
          intro RR
          refine WL.move rfl rfl ?_
          exact WL.done ⟨_, rfl, rfl, rfl, (fun h => absurd h (by decide)), (fun j h => by cases h)⟩
        · intro w25 hE
          intro RR
          refine WL.move rfl rfl ?_
          exact WL.done ⟨_, rfl, rfl, rfl, (fun h => absurd h (by decide)), (fun j h => by cases h)⟩
        · intro w26 hE
          rintro _ rfl
          rintro _ rfl
          intro RR
          refine SL.index Try.underlying22 Try.el3 (hS.ro ho) rfl rfl o27 rfl ?_
          exact WL.done ⟨_, rfl, rfl, rfl, (fun h => absurd h (by decide)), (fun j h => by cases h)⟩
        · intro w28 hE
          have hE := hE rfl
          have hS := hS.grow hE
          rintro _ rfl
          intro RR
          refine WL.load Try.underlying3 rfl rfl (Rd.gi (hS.ro ho) o27) rfl ?_
          exact WL.done ⟨_, rfl, ext_refl _, rfl, (fun h => absurd h (by decide)), (fun j h => by cases h)⟩
        · intro w29 hE
          rintro _ rfl
          rintro _ rfl
          intro RR
          refine WL.neqD rfl rfl rfl ?_
          exact WL.done ⟨_, rfl, rfl, rfl, (fun h => absurd h (by decide)), (fun j h => by cases h)⟩
      · intro vals w30 hT hVs hAp hCp
        have hS := hS.grow hT
        have hv0 : vals 0 = _ := hVs 0 (by decide)
        have hv1 : vals 1 = _ := hVs 1 (by decide)
        have hv2 : vals 2 = _ := hVs 2 (by decide)
        have hv3 : vals 3 = _ := hVs 3 (by decide)
        have hv4 : vals 4 = _ := hVs 4 (by decide)
        have hv5 : vals 5 = _ := hVs 5 (by decide)
        have hv6 : vals 6 = _ := hVs 6 (by decide)
        have hv7 : vals 7 = _ := hVs 7 (by decide)
        have hv8 : vals 8 = _ := hVs 8 (by decide)
        rw [show (List.filterMap (fun i => Option.map (fun t => (t, vals i)) (dstAt _ i)) (List.range _)) = [(16, .slice Al l.length kl), (17, .int .i64 z14), (18, .pointer (some ((adOf Al).add z14.toNat))), (19, .int .i64 (gi l z14)), (20, .slice Ao o.length ko), (21, .int .i64 z14), (22, .pointer (some ((adOf Ao).add z14.toNat))), (23, .int .i64 (gi o z14)), (24, .bool (decide ((gi l z14) ≠ (gi o z14))))] from by
          show [(16, vals 0), (17, vals 1), (18, vals 2), (19, vals 3), (20, vals 4), (21, vals 5), (22, vals 6), (23, vals 7), (24, vals 8)] = _
          rw [hv0, hv1, hv2, hv3, hv4, hv5, hv6, hv7, hv8]]
        refine WA.done (by decide +kernel) ?_
        refine W.cond2 rfl (fun c31 => ?_) (fun c31 => ?_)
        · have hv := hv.1 (of_decide_eq_true c31)
          refine W.seq ?_
          refine W.region ?_
          refine WL.assign rfl rfl ?_
          refine WL.done ?_
          refine W.ret ?_
          refine ⟨_, rfl, Fin.nil ?_⟩
          exact ⟨_, hS.ext, (hS.pick [] rfl).rows, News.of (hS.pick [] rfl).rows rfl, ⟨false, rfl, rfl, hv⟩⟩
        · have hv := hv.2 (of_decide_eq_false c31)
          refine W.skip ?_
          refine W.region ?_
          obtain ⟨o32, hv⟩ := hv
          refine WL.add (r := (z14 + (1 : Int))) rfl rfl (wr o32) rfl ?_
          refine WL.move rfl rfl ?_
          refine WL.done ?_
          change St _ _ _ _ [] at hS
          exact ⟨(z14 + (1 : Int)), ⟨rfl, rfl, rfl, rfl, rfl, trivial⟩, hv.2, rfl, hv.1, hS⟩
    · have hv := hv.2 (of_decide_eq_false c18)
      refine W.exit ?_
      refine W.seq ?_
      refine W.region ?_
      refine WL.assign rfl rfl ?_
      refine WL.done ?_
      refine W.ret ?_
      refine ⟨_, rfl, Fin.nil ?_⟩
      exact ⟨_, hS.ext, (hS.pick [] rfl).rows, News.of (hS.pick [] rfl).rows rfl, ⟨true, rfl, rfl, hv⟩⟩

def V_made (Pf : Int) (Mf : Int) (mf : List Int) (Q : Option GFv → Prop) : Prop :=
  V_rCheck Pf Mf mf (fun r14 => ((r14 ≠ (0 : Int)) → Q none) ∧ (¬ (r14 ≠ (0 : Int)) → (V_New Pf Mf mf (fun q => match q with | (none, r18) => ((r18 ≠ (0 : Int)) → Q none) ∧ (¬ (r18 ≠ (0 : Int)) → Q none) | (some F19, r18) => ((r18 ≠ (0 : Int)) → Q none) ∧ (¬ (r18 ≠ (0 : Int)) → (Q (some F19)))))))
theorem ok_made {w : World} {Q : Option GFv → Prop} {Pf : Int} {Mf : Int} {mf : List Int} {Bf : Nat} {Af : Option Addr} {nf kf : Nat} (hf : Rd Bf w 1 Af nf kf (is mf)) (hv : V_made Pf Mf mf Q) :
    Calls Try.prog 21 #[.agg #[.int .i64 Pf, .int .i64 Mf, .slice Af nf kf]] w fun e w' => ∃ v Qr, e = .returned v ∧ w.grownBy w' none ∧ Rows w.heap.size none w' Qr ∧ News w.heap.size Qr ∧ ∃ (o : Option GFv), Q o ∧ match o with | none => v = .pointer none ∧ Qr = [] | some F => ∃ (ad : Addr) (lo hi : Nat), v = .pointer (some ad) ∧ Qr = [.ch lo hi (fun wz => GFX lo hi wz ad F)] := by
  have hnf := hf.ilen
  subst hnf
  refine calls_swap ?_
  refine calls_of_W (vs := [.agg #[.int .i64 Pf, .int .i64 Mf, .slice Af mf.length kf]]) [2] Try.func21 rfl rfl rfl rfl ?_
  have hS := St.start w
  unfold V_made at hv
  refine W.seq ?_
  refine W.region ?_
  refine SL.box (z := 3) (cs := [.int .i64 Pf, .int .i64 Mf, .slice Af mf.length kf]) hS rfl rfl rfl rfl ?_
  intro g11 w12 hS
  refine WL.assign rfl rfl ?_
  refine WL.done ?_
  refine W.seq ?_
  refine W.seq ?_
  refine W.region ?_
  refine WL.loadV (cs := [.int .i64 Pf, .int .i64 Mf, .slice Af mf.length kf]) Try.el24 Try.agg24 rfl rfl (Own.vcells (hS.own (i := 0) rfl)) rfl ?_
  refine SL.call hS (ok_rCheck (hS.ro hf) hv) Try.func44 rfl Try.nm44 rfl rfl ?_
  rintro _ _ w13 ⟨r14, rfl, rfl, hv⟩ hGw13 hS
  change St _ _ _ _ [.row 24 3 (some ⟨g11, 0, none⟩) 1 1 [.int .i64 Pf, .int .i64 Mf, .slice Af mf.length kf]] at hS
  refine WL.neqD rfl rfl rfl ?_
  refine WL.done ?_
  refine W.cond2 rfl (fun c15 => ?_) (fun c15 => ?_)
  · have hv := hv.1 (of_decide_eq_true c15)
    refine W.seq ?_
    refine W.region ?_
    refine WL.assign rfl rfl ?_
    refine WL.done ?_
    refine W.ret ?_
    refine ⟨_, rfl, Fin.nil ?_⟩
    exact ⟨_, hS.ext, (hS.pick [] rfl).rows, News.of (hS.pick [] rfl).rows rfl, ⟨none, hv, rfl, rfl⟩⟩
  · have hv := hv.2 (of_decide_eq_false c15)
    refine W.skip ?_
    refine W.seq ?_
    refine W.region ?_
    refine WL.loadV (cs := [.int .i64 Pf, .int .i64 Mf, .slice Af mf.length kf]) Try.el24 Try.agg24 rfl rfl (Own.vcells (hS.own (i := 0) rfl)) rfl ?_
    refine SL.call hS (ok_New (hS.ro hf) hv) Try.func58 rfl Try.nm58 rfl rfl ?_
    rintro _ _ w17 ⟨o, r18, hv, hK⟩ hGw17 hS
    cases o with
    | none =>
      obtain ⟨rfl, rfl⟩ := hK
      change St _ _ _ _ [.row 24 3 (some ⟨g11, 0, none⟩) 1 1 [.int .i64 Pf, .int .i64 Mf, .slice Af mf.length kf]] at hS
      refine WL.move rfl rfl ?_
      refine WL.extract rfl rfl rfl ?_
      refine WL.extract rfl rfl rfl ?_
      refine WL.assign rfl rfl ?_
      refine WL.assign rfl rfl ?_
      refine WL.done ?_
      refine W.seq ?_
      refine W.seq ?_
      refine W.region ?_
      refine WL.move rfl rfl ?_
      refine WL.neqD rfl rfl rfl ?_
      refine WL.done ?_
      refine W.cond2 rfl (fun c25 => ?_) (fun c25 => ?_)
      · have hv := hv.1 (of_decide_eq_true c25)
        refine W.seq ?_
        refine W.region ?_
        refine WL.assign rfl rfl ?_
        refine WL.done ?_
        refine W.ret ?_
        refine ⟨_, rfl, Fin.nil ?_⟩
        exact ⟨_, hS.ext, (hS.pick [] rfl).rows, News.of (hS.pick [] rfl).rows rfl, ⟨none, hv, rfl, rfl⟩⟩
      · have hv := hv.2 (of_decide_eq_false c25)
        refine W.skip ?_
        refine W.seq ?_
        refine W.region ?_
        refine WL.move rfl rfl ?_
        refine WL.assign rfl rfl ?_
        refine WL.done ?_
        refine W.ret ?_
        refine ⟨_, rfl, Fin.nil ?_⟩
        exact ⟨_, hS.ext, (hS.pick [] rfl).rows, News.of (hS.pick [] rfl).rows rfl, ⟨none, hv, rfl, rfl⟩⟩
    | some F19 =>
      obtain ⟨ad20, lo21, hi22, rfl, rfl⟩ := hK
      change St _ _ _ _ [.ch lo21 hi22 (fun wz => GFX lo21 hi22 wz ad20 F19), .row 24 3 (some ⟨g11, 0, none⟩) 1 1 [.int .i64 Pf, .int .i64 Mf, .slice Af mf.length kf]] at hS
      refine WL.move rfl rfl ?_
      refine WL.extract rfl rfl rfl ?_
      refine WL.extract rfl rfl rfl ?_
      refine WL.assign rfl rfl ?_
      refine WL.assign rfl rfl ?_
      refine WL.done ?_
      refine W.seq ?_
      refine W.seq ?_
      refine W.region ?_
      refine WL.move rfl rfl ?_
      refine WL.neqD rfl rfl rfl ?_
      refine WL.done ?_
      refine W.cond2 rfl (fun c26 => ?_) (fun c26 => ?_)
      · have hv := hv.1 (of_decide_eq_true c26)
        refine W.seq ?_
        refine W.region ?_
        refine WL.assign rfl rfl ?_
        refine WL.done ?_
        refine W.ret ?_
        refine ⟨_, rfl, Fin.nil ?_⟩
        exact ⟨_, hS.ext, (hS.pick [] rfl).rows, News.of (hS.pick [] rfl).rows rfl, ⟨none, hv, rfl, rfl⟩⟩
      · have hv := hv.2 (of_decide_eq_false c26)
        refine W.skip ?_
        refine W.seq ?_
        refine W.region ?_
        refine WL.move rfl rfl ?_
        refine WL.assign rfl rfl ?_
        refine WL.done ?_
        refine W.ret ?_
        refine ⟨_, rfl, Fin.nil ?_⟩
        exact ⟨_, hS.ext, (hS.pick [0] rfl).rows, News.of (hS.pick [0] rfl).rows rfl, ⟨some F19, hv, _, _, _, rfl, rfl⟩⟩

def V_alive  (Q : Bool → Prop) : Prop :=
  V_made (2 : Int) (4 : Int) ([(1 : Int), (1 : Int), (0 : Int), (0 : Int)] : List Int) (fun q => match q with | none => Q false | some F17 => V_subfield F17 (2 : Int) (fun q => match q with | (x24, r28) => V_trace F17 (8 : Int) (1 : Int) (fun q => match q with | (r30, r31) => ((r28 = (0 : Int)) → (V_lsame x24 ([(0 : Int), (1 : Int), (6 : Int), (7 : Int)] : List Int) (fun r37 => ((r37 = true) → (((r31 = (0 : Int)) → (((r30 = (1 : Int)) → (V_tdegree F17 (2 : Int) (fun r42 => Q (decide (r42 = (4 : Int)))))) ∧ (¬ (r30 = (1 : Int)) → Q false))) ∧ (¬ (r31 = (0 : Int)) → Q false))) ∧ (r37 = false → Q false)))) ∧ (¬ (r28 = (0 : Int)) → Q false))))
theorem ok_alive {w : World} {Q : Bool → Prop}   (hv : V_alive  Q) :
    Calls Try.prog 20 #[] w fun e w' => ∃ v Qr, e = .returned v ∧ w.grownBy w' none ∧ Rows w.heap.size none w' Qr ∧ News w.heap.size Qr ∧ ∃ (r0 : Bool), v = .bool r0 ∧ Qr = [] ∧ Q r0 := by
  refine calls_swap ?_
  refine calls_of_W (vs := []) [0] Try.func20 rfl rfl rfl rfl ?_
  have hS := St.start w
  unfold V_alive at hv
  refine W.seq ?_
  refine W.region ?_
  refine WL.assign rfl rfl ?_
  refine WL.done ?_
  refine W.seq ?_
  refine W.region ?_
  refine SL.lit1 (vs := is ([(1 : Int), (1 : Int), (0 : Int), (0 : Int)] : List Int)) hS Try.underlying22 Try.el3 rfl rfl rfl rfl (is_one _) rfl ?_
  intro A11 w12 hS
  refine WL.build (cells := #[.int .i64 (2 : Int), .int .i64 (4 : Int), .slice A11 4 4]) Try.bld24 rfl rfl rfl ?_
  refine SL.call hS (ok_made (hS.rd (i := 0) rfl) hv) Try.func21 rfl Try.nm21 rfl rfl ?_
  rintro _ _ w15 ⟨o, hv, hK⟩ hGw15 hS
  cases o with
  | none =>
    obtain ⟨rfl, rfl⟩ := hK
    change St _ _ _ _ [.row 3 1 A11 4 4 (is ([(1 : Int), (1 : Int), (0 : Int), (0 : Int)] : List Int))] at hS
    refine WL.assign rfl rfl ?_
    refine WL.done ?_
    refine W.seq ?_
    refine W.seq ?_
    refine W.region ?_
    refine WL.move rfl rfl ?_
    refine WL.eqlPn Try.underlying26 rfl rfl rfl rfl ?_
    refine WL.done ?_
    refine W.condT rfl ?_
    refine W.seq ?_
    refine W.region ?_
    refine WL.assign rfl rfl ?_
    refine WL.done ?_
    refine W.ret ?_
    refine ⟨_, rfl, Fin.nil ?_⟩
    exact ⟨_, hS.ext, (hS.pick [] rfl).rows, News.of (hS.pick [] rfl).rows rfl, ⟨false, rfl, rfl, hv⟩⟩
  | some F17 =>
    obtain ⟨ad18, lo19, hi20, rfl, rfl⟩ := hK
    change St _ _ _ _ [.ch lo19 hi20 (fun wz => GFX lo19 hi20 wz ad18 F17), .row 3 1 A11 4 4 (is ([(1 : Int), (1 : Int), (0 : Int), (0 : Int)] : List Int))] at hS
    refine WL.assign rfl rfl ?_
    refine WL.done ?_
    refine W.seq ?_
    refine W.seq ?_
    refine W.region ?_
    refine WL.move rfl rfl ?_
    refine WL.eqlPn Try.underlying26 rfl rfl rfl rfl ?_
    refine WL.done ?_
    refine W.condF rfl ?_
    refine W.skip ?_
    refine W.seq ?_
    refine W.region ?_
    refine WL.move rfl rfl ?_
    refine SL.call hS (ok_subfield (GFX.gfr (hS.chunk (i := 0) rfl)) hv) Try.func27 rfl Try.nm27 rfl rfl ?_
    rintro _ _ w23 ⟨x24, r28, A25, k26, rfl, rfl, hv⟩ hGw23 hS
    change St _ _ _ _ [.row 3 1 A25 x24.length k26 (is x24), .ch lo19 hi20 (fun wz => GFX lo19 hi20 wz ad18 F17), .row 3 1 A11 4 4 (is ([(1 : Int), (1 : Int), (0 : Int), (0 : Int)] : List Int))] at hS
    refine WL.move rfl rfl ?_
    refine WL.extract rfl rfl rfl ?_
    refine WL.extract rfl rfl rfl ?_
    refine WL.assign rfl rfl ?_
    refine WL.assign rfl rfl ?_
    refine WL.done ?_
    refine W.seq ?_
    refine W.region ?_
    refine WL.move rfl rfl ?_
    refine SL.call hS (ok_trace (GFX.gfr (hS.chunk (i := 1) rfl)) hv) Try.func46 rfl Try.nm46 rfl rfl ?_
    rintro _ _ w29 ⟨r30, r31, rfl, rfl, hv⟩ hGw29 hS
    change St _ _ _ _ [.row 3 1 A25 x24.length k26 (is x24), .ch lo19 hi20 (fun wz => GFX lo19 hi20 wz ad18 F17), .row 3 1 A11 4 4 (is ([(1 : Int), (1 : Int), (0 : Int), (0 : Int)] : List Int))] at hS
    refine WL.move rfl rfl ?_
    refine WL.extract rfl rfl rfl ?_
    refine WL.extract rfl rfl rfl ?_
    refine WL.assign rfl rfl ?_
    refine WL.assign rfl rfl ?_
    refine WL.done ?_
    refine W.seq ?_
    refine W.region ?_
    refine WL.move rfl rfl ?_
    refine WL.eqlD rfl rfl rfl ?_
    refine WL.move rfl rfl ?_
    by_cases g32 : r28 = (0 : Int)
    · have hv := hv.1 g32
      rw [decide_eq_true g32]
      refine WL.take rfl ?_
      refine WL.move rfl rfl ?_
      refine WL.take rfl ?_
      refine SL.lit1 (vs := is ([(0 : Int), (1 : Int), (6 : Int), (7 : Int)] : List Int)) hS Try.underlying22 Try.el3 rfl rfl rfl rfl (is_one _) rfl ?_
      intro A33 w34 hS
      refine WL.take rfl ?_
      refine SL.call hS (ok_lsame (hS.rd (i := 1) rfl) (hS.rd (i := 0) rfl) hv) Try.func29 rfl Try.nm29 rfl rfl ?_
      rintro _ _ w36 ⟨r37, rfl, rfl, hv⟩ hGw36 hS
      change St _ _ _ _ [.row 3 1 A33 4 4 (is ([(0 : Int), (1 : Int), (6 : Int), (7 : Int)] : List Int)), .row 3 1 A25 x24.length k26 (is x24), .ch lo19 hi20 (fun wz => GFX lo19 hi20 wz ad18 F17), .row 3 1 A11 4 4 (is ([(1 : Int), (1 : Int), (0 : Int), (0 : Int)] : List Int))] at hS
      refine WL.pick rfl rfl rfl ?_
      refine WL.move rfl rfl ?_
      cases g38 : r37
      · have hv := hv.2 g38
        refine WL.pass rfl rfl rfl ?_
        refine WL.pass rfl rfl rfl ?_
        refine WL.pick rfl rfl rfl ?_
        refine WL.move rfl rfl ?_
        refine WL.pass rfl rfl rfl ?_
        refine WL.pass rfl rfl rfl ?_
        refine WL.pick rfl rfl rfl ?_
        refine WL.move rfl rfl ?_
        refine WL.pass rfl rfl rfl ?_
        refine WL.pass rfl rfl rfl ?_
        refine WL.pass rfl rfl rfl ?_
        refine WL.pick rfl rfl rfl ?_
        refine WL.assign rfl rfl ?_
        refine WL.done ?_
        refine W.ret ?_
        refine ⟨_, rfl, Fin.nil ?_⟩
        exact ⟨_, hS.ext, (hS.pick [] rfl).rows, News.of (hS.pick [] rfl).rows rfl, ⟨false, rfl, rfl, hv⟩⟩
      · have hv := hv.1 g38
        refine WL.take rfl ?_
        refine WL.move rfl rfl ?_
        refine WL.take rfl ?_
        refine WL.eqlD rfl rfl rfl ?_
        refine WL.pick rfl rfl rfl ?_
        refine WL.move rfl rfl ?_
        by_cases g39 : r31 = (0 : Int)
        · have hv := hv.1 g39
          rw [decide_eq_true g39]
          refine WL.take rfl ?_
          refine WL.move rfl rfl ?_
          refine WL.take rfl ?_
          refine WL.eqlD rfl rfl rfl ?_
          refine WL.pick rfl rfl rfl ?_
          refine WL.move rfl rfl ?_
          by_cases g40 : r30 = (1 : Int)
          · have hv := hv.1 g40
            rw [decide_eq_true g40]
            refine WL.take rfl ?_
            refine WL.move rfl rfl ?_
            refine WL.take rfl ?_
            refine SL.call hS (ok_tdegree (GFX.gfr (hS.chunk (i := 2) rfl)) hv) Try.func35 rfl Try.nm35 rfl rfl ?_
            rintro _ _ w41 ⟨r42, rfl, rfl, hv⟩ hGw41 hS
            change St _ _ _ _ [.row 3 1 A33 4 4 (is ([(0 : Int), (1 : Int), (6 : Int), (7 : Int)] : List Int)), .row 3 1 A25 x24.length k26 (is x24), .ch lo19 hi20 (fun wz => GFX lo19 hi20 wz ad18 F17), .row 3 1 A11 4 4 (is ([(1 : Int), (1 : Int), (0 : Int), (0 : Int)] : List Int))] at hS
            refine WL.take rfl ?_
            refine WL.eqlD rfl rfl rfl ?_
            refine WL.pick rfl rfl rfl ?_
            refine WL.assign rfl rfl ?_
            refine WL.done ?_
            refine W.ret ?_
            refine ⟨_, rfl, Fin.nil ?_⟩
            exact ⟨_, hS.ext, (hS.pick [] rfl).rows, News.of (hS.pick [] rfl).rows rfl, ⟨(decide (r42 = (4 : Int))), rfl, rfl, hv⟩⟩
          · have hv := hv.2 g40
            rw [decide_eq_false g40]
            refine WL.pass rfl rfl rfl ?_
            refine WL.pass rfl rfl rfl ?_
            refine WL.pass rfl rfl rfl ?_
            refine WL.pick rfl rfl rfl ?_
            refine WL.assign rfl rfl ?_
            refine WL.done ?_
            refine W.ret ?_
            refine ⟨_, rfl, Fin.nil ?_⟩
            exact ⟨_, hS.ext, (hS.pick [] rfl).rows, News.of (hS.pick [] rfl).rows rfl, ⟨false, rfl, rfl, hv⟩⟩
        · have hv := hv.2 g39
          rw [decide_eq_false g39]
          refine WL.pass rfl rfl rfl ?_
          refine WL.pass rfl rfl rfl ?_
          refine WL.pick rfl rfl rfl ?_
          refine WL.move rfl rfl ?_
          refine WL.pass rfl rfl rfl ?_
          refine WL.pass rfl rfl rfl ?_
          refine WL.pass rfl rfl rfl ?_
          refine WL.pick rfl rfl rfl ?_
          refine WL.assign rfl rfl ?_
          refine WL.done ?_
          refine W.ret ?_
          refine ⟨_, rfl, Fin.nil ?_⟩
          exact ⟨_, hS.ext, (hS.pick [] rfl).rows, News.of (hS.pick [] rfl).rows rfl, ⟨false, rfl, rfl, hv⟩⟩
    · have hv := hv.2 g32
      rw [decide_eq_false g32]
      refine WL.pass rfl rfl rfl ?_
      refine WL.pass rfl rfl rfl ?_
      refine WL.pass rfl rfl rfl ?_
      refine WL.pick rfl rfl rfl ?_
      refine WL.move rfl rfl ?_
      refine WL.pass rfl rfl rfl ?_
      refine WL.pass rfl rfl rfl ?_
      refine WL.pick rfl rfl rfl ?_
      refine WL.move rfl rfl ?_
      refine WL.pass rfl rfl rfl ?_
      refine WL.pass rfl rfl rfl ?_
      refine WL.pick rfl rfl rfl ?_
      refine WL.move rfl rfl ?_
      refine WL.pass rfl rfl rfl ?_
      refine WL.pass rfl rfl rfl ?_
      refine WL.pass rfl rfl rfl ?_
      refine WL.pick rfl rfl rfl ?_
      refine WL.assign rfl rfl ?_
      refine WL.done ?_
      refine W.ret ?_
      refine ⟨_, rfl, Fin.nil ?_⟩
      exact ⟨_, hS.ext, (hS.pick [] rfl).rows, News.of (hS.pick [] rfl).rows rfl, ⟨false, rfl, rfl, hv⟩⟩
end Go.Proofs.Ythjpminlkcklgaa
set_option linter.unusedSimpArgs false
set_option linter.unusedVariables false
namespace Go.Proofs.Ythjpminlkcklgaa
open Go.RowKit
end Go.Proofs.Ythjpminlkcklgaa
set_option linter.unusedVariables false
namespace Go.Proofs.Ythjpminlkcklgaa
/-! ### vectors over the integers, and the residues of a monic polynomial -/
abbrev Vec := Nat → Int
/-- multiplication by X: c holds the low coefficients of the monic polynomial -/
def tX (m : Nat) (c : Vec) (v : Vec) : Vec := fun i => if i < m then (if i = 0 then 0 else v (i - 1)) - c i * v (m - 1) else 0
def vadd (u v : Vec) : Vec := fun i => u i + v i
def vsm (a : Int) (v : Vec) : Vec := fun i => a * v i
def vz : Vec := fun _ => 0
def e0 : Vec := fun i => if i = 0 then 1 else 0
def tXn (m : Nat) (c : Vec) : Nat → Vec → Vec
  | 0, v => v
  | n + 1, v => tX m c (tXn m c n v)
def opr (m : Nat) (c b : Vec) : Nat → Vec → Vec
  | 0, _ => vz
  | n + 1, v => vadd (opr m c b n v) (vsm (b n) (tXn m c n v))
/-- the product of two residues -/
def vmul (m : Nat) (c a b : Vec) : Vec := opr m c b m a
section
variable (m : Nat) (c : Vec)
theorem tX_add (u v : Vec) : tX m c (vadd u v) = vadd (tX m c u) (tX m c v) := by
  funext i; simp only [tX, vadd]; split
  · split <;> grind
  · rfl
theorem tX_sm (a : Int) (v : Vec) : tX m c (vsm a v) = vsm a (tX m c v) := by
  funext i; simp only [tX, vsm]; split
  · split <;> grind
  · grind
theorem tX_z : tX m c vz = vz := by funext i; simp [tX, vz]
theorem vadd_z (u : Vec) : vadd u vz = u := by funext i; simp [vadd, vz]
theorem z_vadd (u : Vec) : vadd vz u = u := by funext i; simp [vadd, vz]
theorem vadd_comm (u v : Vec) : vadd u v = vadd v u := by funext i; simp only [vadd]; omega
theorem vadd_assoc (u v w : Vec) : vadd (vadd u v) w = vadd u (vadd v w) := by funext i; simp only [vadd]; omega
theorem vsm_add (a : Int) (u v : Vec) : vsm a (vadd u v) = vadd (vsm a u) (vsm a v) := by funext i; simp only [vadd, vsm]; grind
theorem vsm_sm (a b : Int) (u : Vec) : vsm a (vsm b u) = vsm (a * b) u := by funext i; simp only [vsm]; grind
theorem vsm_z (a : Int) : vsm a vz = vz := by funext i; simp [vsm, vz]
theorem tXn_add (n : Nat) (u v : Vec) : tXn m c n (vadd u v) = vadd (tXn m c n u) (tXn m c n v) := by
  induction n with
  | zero => rfl
  | succ n ih => simp only [tXn, ih, tX_add]
theorem tXn_sm (n : Nat) (a : Int) (v : Vec) : tXn m c n (vsm a v) = vsm a (tXn m c n v) := by
  induction n with
  | zero => rfl
  | succ n ih => simp only [tXn, ih, tX_sm]
theorem tXn_z (n : Nat) : tXn m c n vz = vz := by
  induction n with
  | zero => rfl
  | succ n ih => simp only [tXn, ih, tX_z]
theorem tXn_succ (n : Nat) (v : Vec) : tXn m c n (tX m c v) = tX m c (tXn m c n v) := by
  induction n with
  | zero => rfl
  | succ n ih => simp only [tXn, ih]
theorem tXn_tXn (n k : Nat) (v : Vec) : tXn m c n (tXn m c k v) = tXn m c (n + k) v := by
  induction n with
  | zero => simp [tXn]
  | succ n ih => rw [Nat.succ_add]; simp only [tXn, ih]
variable (b : Vec)
theorem opr_add (n : Nat) (u v : Vec) : opr m c b n (vadd u v) = vadd (opr m c b n u) (opr m c b n v) := by
  induction n with
  | zero => simp [opr, vadd_z]
  | succ n ih => simp only [opr, ih, tXn_add, vsm_add]; funext i; simp only [vadd]; omega
theorem opr_sm (n : Nat) (a : Int) (v : Vec) : opr m c b n (vsm a v) = vsm a (opr m c b n v) := by
  induction n with
  | zero => simp [opr, vsm_z]
  | succ n ih => simp only [opr, ih, tXn_sm, vsm_add, vsm_sm]; rw [Int.mul_comm (b n) a]
theorem opr_z (n : Nat) : opr m c b n vz = vz := by
  induction n with
  | zero => rfl
  | succ n ih => simp only [opr, ih, tXn_z, vsm_z, vadd_z]
theorem opr_tXn (n k : Nat) (v : Vec) : opr m c b n (tXn m c k v) = tXn m c k (opr m c b n v) := by
  induction n with
  | zero => simp [opr, tXn_z]
  | succ n ih => simp only [opr, ih, tXn_add, tXn_sm, tXn_tXn]; rw [Nat.add_comm n k]
theorem opr_comm (d : Vec) (n k : Nat) (v : Vec) : opr m c b n (opr m c d k v) = opr m c d k (opr m c b n v) := by
  induction n with
  | zero => simp only [opr, opr_z]
  | succ n ih => simp only [opr, ih, opr_add, opr_sm, opr_tXn]
theorem opr_vadd (d : Vec) (n : Nat) (v : Vec) : opr m c (vadd b d) n v = vadd (opr m c b n v) (opr m c d n v) := by
  induction n with
  | zero => simp [opr, vadd_z]
  | succ n ih => simp only [opr, ih]; funext i; simp only [vadd, vsm]; grind
end
def vei (k : Nat) : Vec := fun i => if i = k then 1 else 0
theorem tXn_e0 {m : Nat} {c : Vec} : ∀ {k : Nat}, k < m → tXn m c k e0 = vei k
  | 0, _ => rfl
  | k + 1, h => by
    have ih : tXn m c k e0 = vei k := tXn_e0 (by omega)
    simp only [tXn, ih]
    funext i
    simp only [tX, vei]
    split
    · rw [if_neg (show ¬ m - 1 = k by omega)]
      by_cases h0 : i = 0
      · subst h0; simp
      · simp only [h0, if_false]; by_cases h1 : i = k + 1
        · subst h1; simp
        · rw [if_neg (by omega), if_neg h1]; simp
    · rw [if_neg (by omega)]
/-- a vector below m is the combination of the powers of X -/
theorem opr_e0 {m : Nat} {c a : Vec} : ∀ {n : Nat}, n ≤ m → ∀ i, opr m c a n e0 i = if i < n then a i else 0
  | 0, _, i => by simp [opr, vz]
  | n + 1, h, i => by
    simp only [opr, vadd, vsm]
    rw [opr_e0 (n := n) (by omega) i, tXn_e0 (by omega)]
    simp only [vei]
    by_cases h1 : i = n
    · subst h1; simp
    · by_cases h2 : i < n
      · simp [h2, h1, show i < n + 1 by omega]
      · simp [h2, h1, show ¬ i < n + 1 by omega]
/-- zero from m on -/
def Sup (m : Nat) (v : Vec) : Prop := ∀ i, m ≤ i → v i = 0
theorem opr_self {m : Nat} {c a : Vec} (h : Sup m a) : opr m c a m e0 = a := by
  funext i; rw [opr_e0 (Nat.le_refl m)]
  split
  · rfl
  · exact (h i (by omega)).symm
theorem Sup.z {m : Nat} : Sup m vz := fun _ _ => rfl
theorem Sup.tX {m : Nat} {c v : Vec} : Sup m (tX m c v) := fun i h => by simp [Go.Proofs.Ythjpminlkcklgaa.tX, show ¬ i < m by omega]
theorem Sup.add {m : Nat} {u v : Vec} (hu : Sup m u) (hv : Sup m v) : Sup m (vadd u v) := fun i h => by simp [vadd, hu i h, hv i h]
theorem Sup.sm {m : Nat} {a : Int} {v : Vec} (hv : Sup m v) : Sup m (vsm a v) := fun i h => by simp [vsm, hv i h]
theorem Sup.tXn {m : Nat} {c v : Vec} (hv : Sup m v) : ∀ n, Sup m (tXn m c n v)
  | 0 => hv
  | _ + 1 => Sup.tX
theorem Sup.opr {m : Nat} {c b v : Vec} (hv : Sup m v) : ∀ n, Sup m (opr m c b n v)
  | 0 => Sup.z
  | n + 1 => (Sup.opr hv n).add (hv.tXn n).sm
theorem vmul_comm {m : Nat} {c a b : Vec} (ha : Sup m a) (hb : Sup m b) : vmul m c a b = vmul m c b a := by
  unfold vmul
  calc opr m c b m a = opr m c b m (opr m c a m e0) := by rw [opr_self ha]
    _ = opr m c a m (opr m c b m e0) := opr_comm ..
    _ = opr m c a m b := by rw [opr_self hb]
theorem vmul_assoc {m : Nat} {c a b d : Vec} (ha : Sup m a) (hb : Sup m b) (hd : Sup m d) : vmul m c (vmul m c a b) d = vmul m c a (vmul m c b d) := by
  rw [vmul_comm (a := a) (b := vmul m c b d) ha (Sup.opr hb m)]
  show opr m c d m (opr m c b m a) = opr m c a m (opr m c d m b)
  rw [← opr_comm m c d a m m b]
  show opr m c d m (vmul m c a b) = opr m c d m (vmul m c b a)
  rw [vmul_comm ha hb]
theorem vmul_add {m : Nat} {c a b d : Vec} : vmul m c a (vadd b d) = vadd (vmul m c a b) (vmul m c a d) := opr_vadd ..
theorem vmul_one {m : Nat} {c a : Vec} (hm : 0 < m) : vmul m c a e0 = a := by
  have key : ∀ n, 0 < n → opr m c e0 n a = a := by
    intro n
    induction n with
    | zero => intro h; omega
    | succ n ih =>
      intro _
      rcases Nat.eq_zero_or_pos n with h | h
      · subst h; funext i; simp [opr, e0, vadd, vsm, vz, tXn]
      · simp only [opr, ih h]; funext i; simp [e0, vadd, vsm, show n ≠ 0 by omega]
  exact key m hm
/-! ### congruence modulo p -/
def vcg (p : Int) (u v : Vec) : Prop := ∀ i, u i % p = v i % p
section
variable {p : Int} {m : Nat} {c c' u u' v v' b b' : Vec}
theorem vcg.refl (u : Vec) : vcg p u u := fun _ => rfl
theorem vcg.symm (h : vcg p u v) : vcg p v u := fun i => (h i).symm
theorem vcg.trans {w : Vec} (h : vcg p u v) (k : vcg p v w) : vcg p u w := fun i => (h i).trans (k i)
theorem mul_cg {a a' d d' : Int} (h : a % p = a' % p) (k : d % p = d' % p) : (a * d) % p = (a' * d') % p := by
  rw [Int.mul_emod, h, k, ← Int.mul_emod]
theorem add_cg {a a' d d' : Int} (h : a % p = a' % p) (k : d % p = d' % p) : (a + d) % p = (a' + d') % p := by
  rw [Int.add_emod, h, k, ← Int.add_emod]
theorem sub_cg {a a' d d' : Int} (h : a % p = a' % p) (k : d % p = d' % p) : (a - d) % p = (a' - d') % p := by
  rw [Int.sub_emod, h, k, ← Int.sub_emod]
theorem vcg.add (h : vcg p u u') (k : vcg p v v') : vcg p (vadd u v) (vadd u' v') := fun i => add_cg (h i) (k i)
theorem vcg.sm {a a' : Int} (ha : a % p = a' % p) (h : vcg p u u') : vcg p (vsm a u) (vsm a' u') := fun i => mul_cg ha (h i)
theorem vcg.tX (hc : vcg p c c') (h : vcg p u u') : vcg p (tX m c u) (tX m c' u') := fun i => by
  simp only [Go.Proofs.Ythjpminlkcklgaa.tX]
  split
  · split
    · exact sub_cg rfl (mul_cg (hc i) (h _))
    · exact sub_cg (h _) (mul_cg (hc i) (h _))
  · rfl
theorem vcg.tXn (hc : vcg p c c') (h : vcg p u u') : ∀ n, vcg p (tXn m c n u) (tXn m c' n u')
  | 0 => h
  | n + 1 => vcg.tX hc (vcg.tXn hc h n)
theorem vcg.opr (hc : vcg p c c') (hb : vcg p b b') (h : vcg p u u') : ∀ n, vcg p (opr m c b n u) (opr m c' b' n u')
  | 0 => .refl _
  | n + 1 => (vcg.opr hc hb h n).add (vcg.sm (hb n) (vcg.tXn hc h n))
theorem vcg.mul (hc : vcg p c c') (h : vcg p u u') (hb : vcg p b b') : vcg p (vmul m c u b) (vmul m c' u' b') := vcg.opr hc hb h m
end
end Go.Proofs.Ythjpminlkcklgaa
set_option linter.unusedVariables false
namespace Go.Proofs.Ythjpminlkcklgaa
/-! ### digits, values, and the operations of a field of residues -/
def dv (p x : Nat) : Vec := fun i => ((x / p ^ i % p : Nat) : Int)
def vl (p : Nat) : Nat → Vec → Int
  | 0, _ => 0
  | n + 1, v => v 0 + (p : Int) * vl p n (fun i => v (i + 1))
def Cn (p n : Nat) (v : Vec) : Prop := ∀ i, i < n → 0 ≤ v i ∧ v i < p
def nm (p m : Nat) (v : Vec) : Nat := (vl p m (fun i => v i % (p : Int))).toNat
theorem dv_succ (p x i : Nat) : dv p x (i + 1) = dv p (x / p) i := by
  simp only [dv]; rw [Nat.pow_succ', ← Nat.div_div_eq_div_mul]
theorem dv_zero (p x : Nat) : dv p x 0 = ((x % p : Nat) : Int) := by simp [dv]
theorem Cn.tl {p n : Nat} {v : Vec} (h : Cn p (n + 1) v) : Cn p n (fun i => v (i + 1)) := fun i hi => h (i + 1) (by omega)
theorem vl_bd {p : Nat} (hp : 0 < p) : ∀ {n : Nat} {v : Vec}, Cn p n v → 0 ≤ vl p n v ∧ vl p n v < ((p ^ n : Nat) : Int)
  | 0, v, _ => by simp [vl]
  | n + 1, v, h => by
    have ih := vl_bd hp h.tl
    have h0 := h 0 (by omega)
    simp only [vl]
    have h1 : (p : Int) * vl p n (fun i => v (i + 1)) ≤ p * (((p ^ n : Nat) : Int) - 1) := Int.mul_le_mul_of_nonneg_left (by omega) (by omega)
    have h2 : 0 ≤ (p : Int) * vl p n (fun i => v (i + 1)) := Int.mul_nonneg (by omega) ih.1
    have h3 : ((p ^ (n + 1) : Nat) : Int) = p * ((p ^ n : Nat) : Int) := by rw [Nat.pow_succ']; push_cast; rfl
    have h4 : (p : Int) * (((p ^ n : Nat) : Int) - 1) = p * ((p ^ n : Nat) : Int) - p := by rw [Int.mul_sub, Int.mul_one]
    omega
theorem vl_congr {p : Nat} : ∀ {n : Nat} {u v : Vec}, (∀ i, i < n → u i = v i) → vl p n u = vl p n v
  | 0, _, _, _ => rfl
  | n + 1, u, v, h => by simp only [vl]; rw [h 0 (by omega), vl_congr (n := n) fun i hi => h (i + 1) (by omega)]
theorem vl_dv {p : Nat} (hp : 0 < p) : ∀ {n x : Nat}, x < p ^ n → vl p n (dv p x) = x
  | 0, x, h => by simp at h; subst h; rfl
  | n + 1, x, h => by
    simp only [vl]
    have : (fun i => dv p x (i + 1)) = dv p (x / p) := by funext i; exact dv_succ p x i
    rw [this, vl_dv hp (n := n) (by rw [Nat.div_lt_iff_lt_mul hp, ← Nat.pow_succ]; exact h), dv_zero]
    have := Nat.mod_add_div x p
    have h2 : ((x % p + p * (x / p) : Nat) : Int) = (x : Int) := by rw [this]
    push_cast at h2 ⊢; exact h2
theorem dv_vl {p : Nat} (hp : 0 < p) : ∀ {n : Nat} {v : Vec}, Cn p n v → ∀ i, i < n → dv p (vl p n v).toNat i = v i
  | 0, _, _, i, hi => by omega
  | n + 1, v, h, i, hi => by
    have ih := vl_bd hp h.tl
    have h0 := h 0 (by omega)
    obtain ⟨t, ht⟩ := Int.eq_ofNat_of_zero_le ih.1
    obtain ⟨a, ha⟩ := Int.eq_ofNat_of_zero_le h0.1
    have hv : (vl p (n + 1) v).toNat = a + p * t := by
      simp only [vl]; rw [ht, ha]
      have : (a : Int) + (p : Int) * (t : Int) = ((a + p * t : Nat) : Int) := by push_cast; rfl
      rw [this]; rfl
    have hap : a < p := by have := h0.2; rw [ha] at this; omega
    rw [hv]
    cases i with
    | zero => rw [dv_zero, Nat.add_mul_mod_self_left, Nat.mod_eq_of_lt hap, ha]
    | succ i =>
      rw [dv_succ]
      have h2 : (a + p * t) / p = t := by rw [Nat.add_mul_div_left _ _ hp, Nat.div_eq_of_lt hap, Nat.zero_add]
      have ih2 := dv_vl hp h.tl i (by omega)
      rw [ht] at ih2
      rw [h2]; exact ih2
section
variable {p m : Nat}
theorem md_cn (hp : 0 < p) (v : Vec) (n : Nat) : Cn p n (fun i => v i % (p : Int)) := fun i _ => ⟨Int.emod_nonneg _ (by omega), Int.emod_lt_of_pos _ (by omega)⟩
theorem nm_lt (hp : 0 < p) (v : Vec) : nm p m v < p ^ m := by
  have := vl_bd hp (md_cn hp v m)
  unfold nm; omega
theorem dv_nm (hp : 0 < p) (v : Vec) {i : Nat} (hi : i < m) : dv p (nm p m v) i = v i % (p : Int) := dv_vl hp (md_cn hp v m) i hi
theorem dv_cn (hp : 0 < p) (x n : Nat) : Cn p n (dv p x) := fun i _ => by
  have := Nat.mod_lt (x / p ^ i) hp
  simp only [dv]; omega
theorem dv_hi {x i : Nat} (hx : x < p ^ m) (hi : m ≤ i) : dv p x i = 0 := by
  rcases Nat.eq_zero_or_pos p with rfl | hp
  · simp only [dv]
    cases m with
    | zero =>
      have : x = 0 := by simpa using hx
      subst this; simp
    | succ m => simp at hx
  · have : x / p ^ i = 0 := Nat.div_eq_of_lt (Nat.lt_of_lt_of_le hx (Nat.pow_le_pow_right hp hi))
    simp [dv, this]
theorem dv_sup {x : Nat} (hx : x < p ^ m) : Sup m (dv p x) := fun i hi => dv_hi hx hi
theorem dv_mod (x i : Nat) : dv p x i % (p : Int) = dv p x i := by
  simp only [dv]; rw [← Int.natCast_emod, Nat.mod_mod]
theorem nm_dv (hp : 0 < p) {x : Nat} (hx : x < p ^ m) : nm p m (dv p x) = x := by
  unfold nm
  rw [vl_congr (v := dv p x) fun i _ => dv_mod x i, vl_dv hp hx]; rfl
theorem nm_cg {u v : Vec} (h : ∀ i, i < m → u i % (p : Int) = v i % (p : Int)) : nm p m u = nm p m v := by
  unfold nm; rw [vl_congr h]
theorem nm_vcg {u v : Vec} (h : vcg p u v) : nm p m u = nm p m v := nm_cg fun i _ => h i
theorem cg_nm (hp : 0 < p) {v : Vec} (hv : Sup m v) : vcg p (dv p (nm p m v)) v := fun i => by
  rcases Nat.lt_or_ge i m with h | h
  · rw [dv_nm hp v h, Int.emod_emod]
  · rw [dv_hi (nm_lt hp v) h, hv i h]
theorem nm_eq (hp : 0 < p) {x : Nat} {v : Vec} (hx : x < p ^ m) (h : ∀ i, i < m → dv p x i = v i % (p : Int)) : nm p m v = x := by
  rw [← nm_dv hp hx]
  exact nm_cg fun i hi => by rw [h i hi, Int.emod_emod]
end
/-! the operations -/
def fadd (p m x y : Nat) : Nat := nm p m (vadd (dv p x) (dv p y))
def fneg (p m x : Nat) : Nat := nm p m (vsm (-1) (dv p x))
def fmul (p m : Nat) (c : Vec) (x y : Nat) : Nat := nm p m (vmul m c (dv p x) (dv p y))
section
variable {p m : Nat} {c : Vec}
theorem fadd_lt (hp : 0 < p) (x y : Nat) : fadd p m x y < p ^ m := nm_lt hp _
theorem fneg_lt (hp : 0 < p) (x : Nat) : fneg p m x < p ^ m := nm_lt hp _
theorem fmul_lt (hp : 0 < p) (x y : Nat) : fmul p m c x y < p ^ m := nm_lt hp _
theorem dv_fadd (hp : 0 < p) {x y : Nat} (hx : x < p ^ m) (hy : y < p ^ m) : vcg p (dv p (fadd p m x y)) (vadd (dv p x) (dv p y)) := cg_nm hp ((dv_sup hx).add (dv_sup hy))
theorem dv_fneg (hp : 0 < p) {x : Nat} (hx : x < p ^ m) : vcg p (dv p (fneg p m x)) (vsm (-1) (dv p x)) := cg_nm hp (dv_sup hx).sm
theorem vmul_sup {a b : Vec} (ha : Sup m a) : Sup m (vmul m c a b) := Sup.opr ha m
theorem dv_fmul (hp : 0 < p) {x y : Nat} (hx : x < p ^ m) : vcg p (dv p (fmul p m c x y)) (vmul m c (dv p x) (dv p y)) := cg_nm hp (vmul_sup (dv_sup hx))
theorem fadd_comm (x y : Nat) : fadd p m x y = fadd p m y x := by unfold fadd; rw [vadd_comm]
theorem fadd_assoc (hp : 0 < p) {x y z : Nat} (hx : x < p ^ m) (hy : y < p ^ m) (hz : z < p ^ m) : fadd p m (fadd p m x y) z = fadd p m x (fadd p m y z) := by
  show nm p m (vadd (dv p (fadd p m x y)) (dv p z)) = nm p m (vadd (dv p x) (dv p (fadd p m y z)))
  rw [nm_vcg ((dv_fadd hp hx hy).add (vcg.refl _)), nm_vcg ((vcg.refl (p := p) (dv p x)).add (dv_fadd hp hy hz)), vadd_assoc]
theorem dv_z (p : Nat) : dv p 0 = vz := by funext i; simp [dv, vz]
theorem fadd_zero (hp : 0 < p) {x : Nat} (hx : x < p ^ m) : fadd p m x 0 = x := by unfold fadd; rw [dv_z, vadd_z, nm_dv hp hx]
theorem fadd_neg (hp : 0 < p) {x : Nat} (hx : x < p ^ m) : fadd p m x (fneg p m x) = 0 := by
  show nm p m (vadd (dv p x) (dv p (fneg p m x))) = 0
  rw [nm_vcg ((vcg.refl (p := p) (dv p x)).add (dv_fneg hp hx))]
  have : vadd (dv p x) (vsm (-1) (dv p x)) = vz := by funext i; simp only [vadd, vsm, vz]; omega
  rw [this, ← dv_z p, nm_dv hp (by exact Nat.pow_pos hp)]
theorem fmul_comm {x y : Nat} (hx : x < p ^ m) (hy : y < p ^ m) : fmul p m c x y = fmul p m c y x := by
  unfold fmul; rw [vmul_comm (dv_sup hx) (dv_sup hy)]
theorem fmul_assoc (hp : 0 < p) {x y z : Nat} (hx : x < p ^ m) (hy : y < p ^ m) (hz : z < p ^ m) : fmul p m c (fmul p m c x y) z = fmul p m c x (fmul p m c y z) := by
  show nm p m (vmul m c (dv p (fmul p m c x y)) (dv p z)) = nm p m (vmul m c (dv p x) (dv p (fmul p m c y z)))
  rw [nm_vcg (vcg.mul (vcg.refl c) (dv_fmul hp hx) (vcg.refl _)), nm_vcg (vcg.mul (vcg.refl c) (vcg.refl (dv p x)) (dv_fmul hp hy)), vmul_assoc (dv_sup hx) (dv_sup hy) (dv_sup hz)]
theorem dv_one (hp : 2 ≤ p) : dv p 1 = e0 := by
  funext i
  cases i with
  | zero => rw [dv_zero, Nat.mod_eq_of_lt (by omega)]; rfl
  | succ i =>
    have : (1 : Nat) / p ^ (i + 1) = 0 := Nat.div_eq_of_lt (Nat.one_lt_pow (by omega) (by omega))
    simp [dv, this, e0]
theorem fmul_one (hp : 2 ≤ p) (hm : 0 < m) {x : Nat} (hx : x < p ^ m) : fmul p m c x 1 = x := by
  unfold fmul; rw [dv_one hp, vmul_one hm, nm_dv (by omega) hx]
theorem fmul_zero (hp : 0 < p) {x : Nat} (hx : x < p ^ m) : fmul p m c x 0 = 0 := by
  rw [fmul_comm hx (Nat.pow_pos hp)]
  unfold fmul; rw [dv_z]
  have : vmul m c vz (dv p x) = vz := opr_z ..
  rw [this, ← dv_z p, nm_dv hp (Nat.pow_pos hp)]
theorem fmul_add (hp : 0 < p) {x y z : Nat} (hx : x < p ^ m) (hy : y < p ^ m) (hz : z < p ^ m) : fmul p m c x (fadd p m y z) = fadd p m (fmul p m c x y) (fmul p m c x z) := by
  show nm p m (vmul m c (dv p x) (dv p (fadd p m y z))) = nm p m (vadd (dv p (fmul p m c x y)) (dv p (fmul p m c x z)))
  rw [nm_vcg (vcg.mul (vcg.refl c) (vcg.refl (dv p x)) (dv_fadd hp hy hz)), nm_vcg ((dv_fmul (c := c) hp hx).add (dv_fmul hp hx)), vmul_add]
end
/-- A finite commutative ring on the numbers below q. -/
structure CR (q : Nat) (A M : Nat → Nat → Nat) : Prop where
  q2 : 2 ≤ q
  Al : ∀ x y, A x y < q
  Ml : ∀ x y, M x y < q
  Ac : ∀ x y, A x y = A y x
  Aa : ∀ {x y z}, x < q → y < q → z < q → A (A x y) z = A x (A y z)
  Az : ∀ {x}, x < q → A x 0 = x
  An : ∀ {x}, x < q → ∃ y, y < q ∧ A x y = 0
  Mc : ∀ {x y}, x < q → y < q → M x y = M y x
  Ma : ∀ {x y z}, x < q → y < q → z < q → M (M x y) z = M x (M y z)
  M1 : ∀ {x}, x < q → M x 1 = x
  M0 : ∀ {x}, x < q → M x 0 = 0
  Md : ∀ {x y z}, x < q → y < q → z < q → M x (A y z) = A (M x y) (M x z)
theorem CR.mk' {p m : Nat} (c : Vec) (hp : 2 ≤ p) (hm : 0 < m) : CR (p ^ m) (fadd p m) (fmul p m c) where
  q2 := Nat.le_trans hp (by have := Nat.pow_le_pow_right (n := p) (by omega) hm; simpa using this)
  Al := fadd_lt (by omega)
  Ml := fmul_lt (by omega)
  Ac := fadd_comm
  Aa := fadd_assoc (by omega)
  Az := fadd_zero (by omega)
  An := fun {x} hx => ⟨fneg p m x, fneg_lt (by omega) x, fadd_neg (by omega) hx⟩
  Mc := fmul_comm
  Ma := fmul_assoc (by omega)
  M1 := fmul_one hp hm
  M0 := fmul_zero (by omega)
  Md := fmul_add (by omega)
end Go.Proofs.Ythjpminlkcklgaa
set_option linter.unusedVariables false
namespace Go.Proofs.Ythjpminlkcklgaa
/-! ### powers, generators, orders -/
def pw (M : Nat → Nat → Nat) (g : Nat) : Nat → Nat
  | 0 => 1
  | k + 1 => M (pw M g k) g
theorem php : ∀ (n : Nat) (f : Nat → Nat), (∀ i, i < n + 1 → f i < n) → ∃ i j, i < j ∧ j < n + 1 ∧ f i = f j
  | 0, f, h => absurd (h 0 (by omega)) (by omega)
  | n + 1, f, h => by
    by_cases hc : ∃ i, i < n + 1 ∧ f i = f (n + 1)
    · obtain ⟨i, hi, he⟩ := hc; exact ⟨i, n + 1, hi, by omega, he⟩
    · have hv := h (n + 1) (by omega)
      obtain ⟨i, j, hij, hj, he⟩ := php n (fun i => if f i = n then f (n + 1) else f i) (fun i hi => by
        have hne : f i ≠ f (n + 1) := fun e => hc ⟨i, hi, e⟩
        have := h i (by omega)
        show (if f i = n then f (n + 1) else f i) < n
        split
        · omega
        · omega)
      refine ⟨i, j, hij, by omega, ?_⟩
      have hi1 : f i ≠ f (n + 1) := fun e => hc ⟨i, by omega, e⟩
      have hj1 : f j ≠ f (n + 1) := fun e => hc ⟨j, by omega, e⟩
      split at he <;> split at he <;> omega
theorem surj_of_inj {n : Nat} {f : Nat → Nat} (hb : ∀ i, i < n → f i < n) (hi : ∀ i j, i < j → j < n → f i ≠ f j) {y : Nat} (hy : y < n) : ∃ i, i < n ∧ f i = y := by
  obtain ⟨i, j, hij, hj, he⟩ := php n (fun i => if i < n then f i else y) (fun i _ => by
    show (if i < n then f i else y) < n
    split
    · rename_i h; exact hb i h
    · exact hy)
  rcases Nat.lt_or_ge j n with h | h
  · rw [if_pos h, if_pos (show i < n by omega)] at he; exact absurd he (hi i j hij h)
  · rw [if_neg (show ¬ j < n by omega), if_pos (show i < n by omega)] at he; exact ⟨i, by omega, he⟩
section
variable {q : Nat} {A M : Nat → Nat → Nat} (R : CR q A M)
include R
namespace CR
theorem one_lt : 1 < q := R.q2
theorem pos : 0 < q := by have := R.q2; omega
theorem I1 {x : Nat} (hx : x < q) : M 1 x = x := by rw [R.Mc R.one_lt hx, R.M1 hx]
theorem Z0 {x : Nat} (hx : x < q) : M 0 x = 0 := by rw [R.Mc R.pos hx, R.M0 hx]
theorem zA {x : Nat} (hx : x < q) : A 0 x = x := by rw [R.Ac, R.Az hx]
theorem pw_lt (g : Nat) : ∀ k, pw M g k < q
  | 0 => R.one_lt
  | k + 1 => R.Ml _ _
theorem pw_one {g : Nat} (hg : g < q) : pw M g 1 = g := R.I1 hg
theorem pw_add {g : Nat} (hg : g < q) (i : Nat) : ∀ j, pw M g (i + j) = M (pw M g i) (pw M g j)
  | 0 => (R.M1 (R.pw_lt g i)).symm
  | j + 1 => by
    show M (pw M g (i + j)) g = M (pw M g i) (M (pw M g j) g)
    rw [pw_add hg i j, R.Ma (R.pw_lt g i) (R.pw_lt g j) hg]
theorem pw_pw {g : Nat} (hg : g < q) (i : Nat) : ∀ j, pw M (pw M g i) j = pw M g (i * j)
  | 0 => rfl
  | j + 1 => by
    show M (pw M (pw M g i) j) (pw M g i) = _
    rw [pw_pw hg i j, ← R.pw_add hg]; rfl
theorem one_pw : ∀ j, pw M 1 j = 1
  | 0 => rfl
  | j + 1 => by show M (pw M 1 j) 1 = 1; rw [one_pw j, R.M1 R.one_lt]
theorem mul_pw {x y : Nat} (hx : x < q) (hy : y < q) : ∀ n, pw M (M x y) n = M (pw M x n) (pw M y n)
  | 0 => (R.M1 R.one_lt).symm
  | n + 1 => by
    show M (pw M (M x y) n) (M x y) = M (M (pw M x n) x) (M (pw M y n) y)
    have h1 := R.pw_lt x n
    have h2 := R.pw_lt y n
    rw [mul_pw hx hy n, R.Ma h1 h2 (R.Ml x y), ← R.Ma h2 hx hy, R.Mc h2 hx, R.Ma hx h2 hy, ← R.Ma h1 hx (R.Ml _ _)]
theorem zero_pw {n : Nat} (h : 0 < n) : pw M 0 n = 0 := by
  cases n with
  | zero => omega
  | succ n => exact R.M0 (R.pw_lt 0 n)
end CR
end
/-- g has the order q - 1 -/
structure Gn (q : Nat) (M : Nat → Nat → Nat) (g : Nat) : Prop where
  lt : g < q
  one : pw M g (q - 1) = 1
  no : ∀ k, 0 < k → k < q - 1 → pw M g k ≠ 1
namespace Gn
variable {q g : Nat} {A M : Nat → Nat → Nat}
theorem per (G : Gn q M g) (R : CR q A M) (i k : Nat) : pw M g (i + (q - 1) * k) = pw M g i := by
  rw [R.pw_add G.lt, ← R.pw_pw G.lt, G.one, R.one_pw, R.M1 (R.pw_lt g i)]
theorem modp (G : Gn q M g) (R : CR q A M) (i : Nat) : pw M g (i % (q - 1)) = pw M g i := by
  have := G.per R (i % (q - 1)) (i / (q - 1))
  rw [Nat.mod_add_div] at this; exact this.symm
theorem ne0 (G : Gn q M g) (R : CR q A M) (k : Nat) : pw M g k ≠ 0 := fun h => by
  have h1 := G.per R 0 (k + 1)
  have hq := R.q2
  rw [Nat.zero_add] at h1
  have : (q - 1) * (k + 1) = k + ((q - 1) * (k + 1) - k) := by
    have : k + 1 ≤ (q - 1) * (k + 1) := Nat.le_mul_of_pos_left _ (by omega)
    omega
  rw [this, R.pw_add G.lt, h, R.Z0 (R.pw_lt g _)] at h1
  exact absurd h1 (by show ¬ (0 : Nat) = 1; omega)
theorem inj (G : Gn q M g) (R : CR q A M) {i j : Nat} (hij : i < j) (hj : j < q - 1) : pw M g i ≠ pw M g j := fun h => by
  have e1 : M (pw M g i) (pw M g (q - 1 - i)) = 1 := by rw [← R.pw_add G.lt, show i + (q - 1 - i) = q - 1 by omega, G.one]
  have e2 : M (pw M g j) (pw M g (q - 1 - i)) = pw M g (j - i) := by
    rw [← R.pw_add G.lt, show j + (q - 1 - i) = (j - i) + (q - 1) * 1 by omega, G.per R]
  rw [h] at e1
  exact G.no (j - i) (by omega) (by omega) (e2.symm.trans e1)
theorem surj (G : Gn q M g) (R : CR q A M) {x : Nat} (h0 : 0 < x) (hx : x < q) : ∃ k, k < q - 1 ∧ pw M g k = x := by
  obtain ⟨i, hi, he⟩ := surj_of_inj (n := q - 1) (f := fun k => pw M g k - 1) (fun i hi => by
    have := R.pw_lt g i; have := G.ne0 R i
    show pw M g i - 1 < q - 1; omega) (fun i j hij hj he => by
    have h1 := G.ne0 R i; have h2 := G.ne0 R j
    exact G.inj R hij hj (by omega)) (y := x - 1) (by omega)
  have := G.ne0 R i
  exact ⟨i, hi, by omega⟩
open Classical in
/-- the logarithm -/
noncomputable def lg (q : Nat) (M : Nat → Nat → Nat) (g x : Nat) : Nat := if h : ∃ k, k < q - 1 ∧ pw M g k = x then Classical.choose h else 0
/-- every element but 0 has a period -/
theorem xone (G : Gn q M g) (R : CR q A M) {x : Nat} (h0 : 0 < x) (hx : x < q) : pw M x (q - 1) = 1 := by
  obtain ⟨k, hk, rfl⟩ := G.surj R h0 hx
  rw [R.pw_pw G.lt, Nat.mul_comm, ← R.pw_pw G.lt, G.one, R.one_pw]
theorem xq (G : Gn q M g) (R : CR q A M) {x : Nat} (hx : x < q) : pw M x q = x := by
  have hq := R.q2
  rcases Nat.eq_zero_or_pos x with rfl | h0
  · exact R.zero_pw (by omega)
  · have : q = (q - 1) + 1 := by omega
    rw [this]; show M (pw M x (q - 1)) x = x
    rw [G.xone R h0 hx, R.I1 hx]
end Gn
end Go.Proofs.Ythjpminlkcklgaa
set_option linter.unusedVariables false
namespace Go.Proofs.Ythjpminlkcklgaa
/-! ### primes, binomial coefficients, the theorem of Frobenius -/
structure IsLf (n d : Nat) : Prop where
  two : 2 ≤ d
  dvd : n % d = 0
  min : ∀ e, 2 ≤ e → n % e = 0 → d ≤ e
theorem prime_cop {p k : Nat} (hp : IsLf p p) (hk : k % p ≠ 0) : Nat.gcd p k = 1 := by
  have h1 := Nat.gcd_dvd_left p k
  rcases Nat.lt_or_ge (Nat.gcd p k) 2 with h | h
  · have : 0 < Nat.gcd p k := Nat.gcd_pos_of_pos_left _ (by have := hp.two; omega)
    omega
  · have h2 := hp.min _ h (Nat.mod_eq_zero_of_dvd h1)
    have h3 := Nat.le_of_dvd (by have := hp.two; omega) h1
    have h4 : Nat.gcd p k = p := by omega
    have h5 := Nat.gcd_dvd_right p k
    rw [h4] at h5
    exact absurd (Nat.mod_eq_zero_of_dvd h5) hk
def choose : Nat → Nat → Nat
  | _, 0 => 1
  | 0, _ + 1 => 0
  | n + 1, k + 1 => choose n k + choose n (k + 1)
theorem choose_zero (n : Nat) : choose n 0 = 1 := by cases n <;> rfl
theorem choose_succ (n k : Nat) : choose (n + 1) (k + 1) = choose n k + choose n (k + 1) := rfl
theorem choose_big : ∀ {n k : Nat}, n < k → choose n k = 0
  | 0, k + 1, _ => rfl
  | n + 1, k + 1, h => by rw [choose_succ, choose_big (by omega : n < k), choose_big (by omega : n < k + 1)]
theorem choose_self : ∀ n : Nat, choose n n = 1
  | 0 => rfl
  | n + 1 => by rw [choose_succ, choose_self n, choose_big (by omega)]
theorem choose_absorb : ∀ n k : Nat, (n + 1) * choose n k = choose (n + 1) (k + 1) * (k + 1)
  | 0, 0 => rfl
  | 0, k + 1 => by rw [choose_big (by omega : 0 < k + 1), choose_big (by omega : 0 + 1 < k + 1 + 1)]; simp
  | n + 1, 0 => by
    have h := choose_absorb n 0
    rw [choose_zero] at h ⊢
    rw [choose_succ (n + 1) 0, choose_zero]
    omega
  | n + 1, k + 1 => by
    have h1 := choose_absorb n k
    have h2 := choose_absorb n (k + 1)
    rw [choose_succ (n + 1) (k + 1), Nat.add_mul (choose (n + 1) (k + 1)), ← h2]
    rw [show choose (n + 1) (k + 1) * (k + 1 + 1) = choose (n + 1) (k + 1) * (k + 1) + choose (n + 1) (k + 1) by rw [Nat.mul_add, Nat.mul_one], ← h1]
    rw [show (n + 1 + 1) * choose (n + 1) (k + 1) = (n + 1) * choose (n + 1) (k + 1) + choose (n + 1) (k + 1) by rw [Nat.add_mul (n + 1) 1, Nat.one_mul]]
    rw [choose_succ n k, Nat.mul_add]
    omega
theorem prime_choose {p k : Nat} (hp : IsLf p p) (h0 : 0 < k) (hk : k < p) : p ∣ choose p k := by
  obtain ⟨n, rfl⟩ : ∃ n, p = n + 1 := ⟨p - 1, by omega⟩
  obtain ⟨j, rfl⟩ : ∃ j, k = j + 1 := ⟨k - 1, by omega⟩
  have h := choose_absorb n j
  have h2 : (n + 1) ∣ choose (n + 1) (j + 1) * (j + 1) := ⟨_, h.symm⟩
  exact Nat.Coprime.dvd_of_dvd_mul_right (prime_cop hp (by rw [Nat.mod_eq_of_lt hk]; omega)) h2
/-! multiples and sums in the ring -/
def ns (A : Nat → Nat → Nat) (x : Nat) : Nat → Nat
  | 0 => 0
  | k + 1 => A (ns A x k) x
def rs (A : Nat → Nat → Nat) (f : Nat → Nat) : Nat → Nat
  | 0 => 0
  | n + 1 => A (rs A f n) (f n)
theorem rs_congr {A : Nat → Nat → Nat} {f h : Nat → Nat} : ∀ {n : Nat}, (∀ i, i < n → f i = h i) → rs A f n = rs A h n
  | 0, _ => rfl
  | n + 1, hh => by
    show A (rs A f n) (f n) = A (rs A h n) (h n)
    rw [rs_congr (n := n) fun i hi => hh i (by omega), hh n (by omega)]
section
variable {q : Nat} {A M : Nat → Nat → Nat} (R : CR q A M)
include R
namespace CR
theorem ns_lt (x : Nat) : ∀ k, ns A x k < q
  | 0 => R.pos
  | k + 1 => R.Al _ _
theorem rs_lt (f : Nat → Nat) : ∀ k, rs A f k < q
  | 0 => R.pos
  | k + 1 => R.Al _ _
theorem ns_add {x : Nat} (hx : x < q) (i : Nat) : ∀ j, ns A x (i + j) = A (ns A x i) (ns A x j)
  | 0 => (R.Az (R.ns_lt x i)).symm
  | j + 1 => by
    show A (ns A x (i + j)) x = A (ns A x i) (A (ns A x j) x)
    rw [ns_add hx i j, R.Aa (R.ns_lt x i) (R.ns_lt x j) hx]
theorem ns_mul {x : Nat} (hx : x < q) (i : Nat) : ∀ j, ns A x (i * j) = ns A (ns A x i) j
  | 0 => rfl
  | j + 1 => by
    show _ = A (ns A (ns A x i) j) (ns A x i)
    rw [Nat.mul_succ, R.ns_add hx, ns_mul hx i j]
theorem ns_zero : ∀ k, ns A 0 k = 0
  | 0 => rfl
  | k + 1 => by show A (ns A 0 k) 0 = 0; rw [ns_zero k, R.Az R.pos]
theorem mul_ns {x y : Nat} (hx : x < q) (hy : y < q) : ∀ k, M y (ns A x k) = ns A (M y x) k
  | 0 => R.M0 hy
  | k + 1 => by
    show M y (A (ns A x k) x) = A (ns A (M y x) k) (M y x)
    rw [R.Md hy (R.ns_lt x k) hx, mul_ns hx hy k]
theorem Aac {a b c : Nat} (ha : a < q) (hb : b < q) (hc : c < q) : A (A a b) c = A (A a c) b := by
  rw [R.Aa ha hb hc, R.Ac b c, ← R.Aa ha hc hb]
theorem A4 {a b c d : Nat} (ha : a < q) (hb : b < q) (hc : c < q) (hd : d < q) : A (A a b) (A c d) = A (A a c) (A b d) := by
  rw [← R.Aa (R.Al a b) hc hd, R.Aac ha hb hc, R.Aa (R.Al a c) hb hd]
theorem rs_add {f h : Nat → Nat} (hf : ∀ i, f i < q) (hh : ∀ i, h i < q) : ∀ n, rs A (fun i => A (f i) (h i)) n = A (rs A f n) (rs A h n)
  | 0 => (R.Az R.pos).symm
  | n + 1 => by
    show A (rs A (fun i => A (f i) (h i)) n) (A (f n) (h n)) = A (A (rs A f n) (f n)) (A (rs A h n) (h n))
    rw [rs_add hf hh n, R.A4 (R.rs_lt f n) (R.rs_lt h n) (hf n) (hh n)]
theorem rs_mul {f : Nat → Nat} {y : Nat} (hf : ∀ i, f i < q) (hy : y < q) : ∀ n, M y (rs A f n) = rs A (fun i => M y (f i)) n
  | 0 => R.M0 hy
  | n + 1 => by
    show M y (A (rs A f n) (f n)) = A (rs A (fun i => M y (f i)) n) (M y (f n))
    rw [R.Md hy (R.rs_lt f n) (hf n), rs_mul hf hy n]
theorem rs_shift {f : Nat → Nat} (hf : ∀ i, f i < q) : ∀ n, rs A f (n + 1) = A (f 0) (rs A (fun i => f (i + 1)) n)
  | 0 => by show A 0 (f 0) = A (f 0) 0; rw [R.Ac]
  | n + 1 => by
    show A (rs A f (n + 1)) (f (n + 1)) = A (f 0) (A (rs A (fun i => f (i + 1)) n) (f (n + 1)))
    rw [rs_shift hf n, R.Aa (hf 0) (R.rs_lt _ n) (hf _)]
theorem rs_zero {f : Nat → Nat} : ∀ {n : Nat}, (∀ i, i < n → f i = 0) → rs A f n = 0
  | 0, _ => rfl
  | n + 1, h => by
    show A (rs A f n) (f n) = 0
    rw [rs_zero (n := n) fun i hi => h i (by omega), h n (by omega), R.Az R.pos]
/-- the binomial theorem -/
theorem binom {x : Nat} (hx : x < q) : ∀ n, pw M (A 1 x) n = rs A (fun k => ns A (pw M x k) (choose n k)) (n + 1)
  | 0 => by
    show 1 = A 0 (A 0 1)
    rw [R.zA R.one_lt, R.zA R.one_lt]
  | n + 1 => by
    have hl : ∀ j k, ns A (pw M x k) j < q := fun j k => R.ns_lt _ j
    have h1 : rs A (fun k => ns A (pw M x k) (choose (n + 1) k)) (n + 1 + 1) = A (ns A (pw M x 0) (choose (n + 1) 0)) (rs A (fun k => ns A (pw M x (k + 1)) (choose (n + 1) (k + 1))) (n + 1)) := R.rs_shift (fun k => hl _ k) (n + 1)
    have h2 : rs A (fun k => ns A (pw M x (k + 1)) (choose (n + 1) (k + 1))) (n + 1) = A (rs A (fun k => ns A (pw M x (k + 1)) (choose n k)) (n + 1)) (rs A (fun k => ns A (pw M x (k + 1)) (choose n (k + 1))) (n + 1)) := by
      rw [← R.rs_add (fun k => hl _ (k + 1)) (fun k => hl _ (k + 1))]
      exact rs_congr fun k _ => by rw [choose_succ, R.ns_add (R.pw_lt x _)]
    have h3 : rs A (fun k => ns A (pw M x (k + 1)) (choose n k)) (n + 1) = M x (rs A (fun k => ns A (pw M x k) (choose n k)) (n + 1)) := by
      rw [R.rs_mul (fun k => hl _ k) hx]
      exact rs_congr fun k _ => by rw [R.mul_ns (R.pw_lt x k) hx, R.Mc hx (R.pw_lt x k)]; rfl
    have h4 : A (ns A (pw M x 0) (choose (n + 1) 0)) (rs A (fun k => ns A (pw M x (k + 1)) (choose n (k + 1))) (n + 1)) = rs A (fun k => ns A (pw M x k) (choose n k)) (n + 1) := by
      have e1 : rs A (fun k => ns A (pw M x k) (choose n k)) (n + 1 + 1) = A (ns A (pw M x 0) (choose n 0)) (rs A (fun k => ns A (pw M x (k + 1)) (choose n (k + 1))) (n + 1)) := R.rs_shift (fun k => hl _ k) (n + 1)
      have e2 : rs A (fun k => ns A (pw M x k) (choose n k)) (n + 1 + 1) = rs A (fun k => ns A (pw M x k) (choose n k)) (n + 1) := by
        show A (rs A (fun k => ns A (pw M x k) (choose n k)) (n + 1)) (ns A (pw M x (n + 1)) (choose n (n + 1))) = _
        rw [choose_big (by omega : n < n + 1)]
        exact R.Az (R.rs_lt _ _)
      rw [choose_zero] at e1 ⊢
      rw [← e1, e2]
    have hr := R.rs_lt (fun k => ns A (pw M x k) (choose n k)) (n + 1)
    show M (pw M (A 1 x) n) (A 1 x) = _
    rw [binom hx n, h1, h2, h3, R.Md hr R.one_lt hx, R.M1 hr]
    rw [R.Ac (M x _), ← R.Aa (hl _ 0) (R.rs_lt _ _) (R.Ml _ _), h4, R.Mc hr hx]
theorem frob1 {p : Nat} (hp : IsLf p p) (hch : ∀ x, x < q → ns A x p = 0) {x : Nat} (hx : x < q) : pw M (A 1 x) p = A 1 (pw M x p) := by
  have hp2 := hp.two
  rw [R.binom hx p]
  obtain ⟨n, rfl⟩ : ∃ n, p = n + 1 := ⟨p - 1, by omega⟩
  show A (rs A (fun k => ns A (pw M x k) (choose (n + 1) k)) (n + 1)) (ns A (pw M x (n + 1)) (choose (n + 1) (n + 1))) = _
  rw [R.rs_shift (fun k => R.ns_lt _ _) n, R.rs_zero fun i hi => by
    obtain ⟨t, ht⟩ := prime_choose hp (by omega : 0 < i + 1) (by omega)
    rw [ht, R.ns_mul (R.pw_lt x _), hch _ (R.pw_lt x _), R.ns_zero]]
  rw [choose_zero, choose_self, R.Az (R.ns_lt _ _)]
  show A (A 0 1) (A 0 (pw M x (n + 1))) = _
  rw [R.zA R.one_lt, R.zA (R.pw_lt x _)]
theorem frob {p g : Nat} (G : Gn q M g) (hp : IsLf p p) (hch : ∀ x, x < q → ns A x p = 0) {x y : Nat} (hx : x < q) (hy : y < q) : pw M (A x y) p = A (pw M x p) (pw M y p) := by
  have hp2 := hp.two
  rcases Nat.eq_zero_or_pos x with rfl | h0
  · rw [R.zA hy, R.zero_pw (by omega), R.zA (R.pw_lt y p)]
  · -- y = x z
    obtain ⟨z, hz, hyz⟩ : ∃ z, z < q ∧ M x z = y := by
      refine ⟨M (pw M x (q - 2)) y, R.Ml _ _, ?_⟩
      rw [← R.Ma hx (R.pw_lt x _) hy, R.Mc hx (R.pw_lt x _)]
      have := G.xone R h0 hx
      have hq := R.q2
      rw [show q - 1 = (q - 2) + 1 by omega] at this
      rw [show M (pw M x (q - 2)) x = 1 from this, R.I1 hy]
    subst hyz
    have e : A x (M x z) = M x (A 1 z) := by rw [R.Md hx R.one_lt hz, R.M1 hx]
    rw [e, R.mul_pw hx (R.Al _ _), R.frob1 hp hch hz, R.mul_pw hx hz, R.Md (R.pw_lt x p) R.one_lt (R.pw_lt z p), R.M1 (R.pw_lt x p)]
end CR
end
/-- P times an element is 0 -/
theorem ns_nm {p m : Nat} (hp : 0 < p) {x : Nat} (hx : x < p ^ m) : ∀ k : Nat, ns (fadd p m) x k = nm p m (vsm k (dv p x))
  | 0 => by
    show 0 = _
    have : vsm ((0 : Nat) : Int) (dv p x) = vz := by funext i; simp [vsm, vz]
    rw [this, ← dv_z p, nm_dv hp (Nat.pow_pos hp)]
  | k + 1 => by
    show nm p m (vadd (dv p (ns (fadd p m) x k)) (dv p x)) = _
    rw [ns_nm hp hx k, nm_vcg ((cg_nm hp (dv_sup hx).sm).add (vcg.refl _))]
    congr 1
    funext i; simp only [vadd, vsm]; push_cast; rw [Int.add_mul, Int.one_mul]
theorem ns_char {p m : Nat} (hp : 0 < p) {x : Nat} (hx : x < p ^ m) : ns (fadd p m) x p = 0 := by
  rw [ns_nm hp hx, nm_cg (v := dv p 0), nm_dv hp (Nat.pow_pos hp)]
  intro i _
  rw [dv_z]; simp only [vsm, vz]
  rw [Int.mul_emod_right]; rfl
end Go.Proofs.Ythjpminlkcklgaa
